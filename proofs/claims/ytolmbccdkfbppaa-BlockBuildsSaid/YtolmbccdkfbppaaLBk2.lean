/- The law BlockBuilds walked: whatever is added: each answer, and the block behind it. Conditions: those written at the theorem. -/
import Derived.Test.YtolmbccdkfbppaaBkH
import Derived.Lib.QuietBelow
import Derived.BigQuiet
namespace Go.Proofs.Ytolmbccdkfbppaa
open Go.RowKit Go.Sort
set_option linter.unusedVariables false
set_option linter.unusedSimpArgs false

set_option maxRecDepth 100000 in
set_option maxHeartbeats 8000000 in
theorem blockBuilds_walk (ao : Option Addr) (cap : Nat) (ps : List PB) (w : World) (hS : PAt w.heap.size ao ps w) (hlen : ps.length ≤ maxLen) (hx : ∀ x ∈ ps, x.k.size ≤ maxLen ∧ x.v.size ≤ maxLen) :
    Calls Try.prog 3 #[.slice ao ps.length cap] w fun e w' => e = .returned (.bool true) ∧ Below w.heap.size w w' := by
  have GG := Lib.hid (great_any ao cap ps hx hlen w.heap.size w hS)
  obtain ⟨N, hN⟩ : ∃ N, N = ps.length := ⟨_, rfl⟩
  have HS := Lib.hid hS
  have HX := Lib.hid hx
  have HN := Lib.hid hN
  rw [← hN] at GG ⊢
  clear hS hx hN hlen
  go_enter Try.func3, Try.ntmps3
  go_wp2_with fail
  refine GG.out.mono ?_
  rintro e w1 ⟨⟨g, rfl, hg⟩, q, rfl⟩
  have K0 := Lib.hid (below_drewN (Below.refl w.heap.size w) q)
  clear GG
  cases g with
  | true =>
    clear hg
    go_wp2_with fail
    refine (awake_any _).mono ?_
    rintro e w2 ⟨rfl, k2⟩
    have K1 := Lib.hid (below_mono K0.out k2 (Nat.le_refl _))
    clear k2
    go_wp2_with fail
    go_ret
    exact ⟨rfl, K1.out⟩
  | false =>
    have hN200 := hg rfl
    clear hg
    go_wp2_with fail
    refine (awake_any _).mono ?_
    rintro e w2 ⟨rfl, k2⟩
    have K1 := Lib.hid (below_mono K0.out k2 (Nat.le_refl _))
    obtain ⟨b, hb⟩ : ∃ b, b = w2.heap.size := ⟨_, rfl⟩
    have hBk := BkAt.fresh w2
    have hK2 := (Below.refl w2.heap.size w2).alloc (Nat.le_refl _) (.cells #[.slice none 0 0, .slice none 0 0, .int .i64 0, .string ⟨#[]⟩] 29)
    have HB2 := Lib.hid hBk
    have HK3 : Hid (Below w.heap.size w (w2.alloc (.cells #[.slice none 0 0, .slice none 0 0, .int .i64 0, .string ⟨#[]⟩] 29)) ∧ w2.heap.size ≤ (w2.alloc (.cells #[.slice none 0 0, .slice none 0 0, .int .i64 0, .string ⟨#[]⟩] 29)).heap.size ∧ w.heap.size ≤ w2.heap.size) := Lib.hid ⟨below_mono K1.out hK2 (Nat.le_refl _), hK2.size, K1.out.size⟩
    clear k2 hBk hK2 K0
    go_wp2_with fail
    obtain ⟨WS, hWS⟩ : ∃ WS, WS = w2.alloc (.cells #[.slice none 0 0, .slice none 0 0, .int .i64 0, .string ⟨#[]⟩] 29) := ⟨_, rfl⟩
    refine wp_letter (fun W => WS = W) hWS ?_
    rintro _ rfl
    rw [← hWS, ← hb] at HK3
    rw [← hWS, ← hb] at HB2
    rw [← hb]
    clear hb hWS
    go_loopw [4, 5] (fun v i wr => ∃ (k n1 : Nat) (acc : List PB), k ≤ N ∧ n1 ≤ k ∧ i = .int .i64 k ∧ Hid (n1 = acc.length) ∧ Hid (∀ p ∈ acc, rightP p = true) ∧ Hid (BkAt b b (foldB acc) wr) ∧ Hid (wr.ownsRow b 33 2 v n1 (pCells acc)) ∧ Hid (Below w.heap.size w wr ∧ b ≤ wr.heap.size ∧ w.heap.size ≤ b)) (fun _ i _ => N - (intOf i).toNat)
    case atStart => exact ⟨0, 0, [], by omega, by omega, rfl, Lib.hid rfl, Lib.hid (fun p hp => by cases hp), HB2, Lib.hid (World.ownsRow_nil _ _ _ _), HK3⟩
    case round =>
      obtain ⟨k, n1, acc, hk, hn1, rfl, HN1, HR, KB, HROW0, HB⟩ := hrel
      obtain ⟨va, vc, hv⟩ := row_form HROW0.out
      subst hv
      have R1 := HROW0
      clear HROW0
      by_cases hlt : k < N
      · have hki : (k : Int) < (N : Int) := by omega
        have hk0 : (0 : Int) ≤ (k : Int) := by omega
        have hkp : k < ps.length := by rw [← HN.out]; exact hlt
        obtain ⟨a, rfl⟩ := HS.out.1 (by omega)
        have HP : Hid (∀ W, Below w.heap.size w W → W.cell? (a.add (k * 2)) = some (.string ps[k].k) ∧ W.cell? ⟨(a.add (k * 2)).block, (a.add (k * 2)).off + 1, none⟩ = some (.string ps[k].v)) := Lib.hid fun W hb => ((HS.out.under hb).2 a rfl (by omega)).2 k ps[k] (List.getElem?_eq_getElem hkp)
        have HXP := Lib.hid (HX.out ps[k] (List.getElem_mem hkp))
        obtain ⟨p, hp⟩ : ∃ p, p = ps[k] := ⟨_, rfl⟩
        rw [← hp] at HP HXP
        obtain ⟨K, hK⟩ : ∃ K, K = p.k := ⟨_, rfl⟩
        obtain ⟨V, hV⟩ : ∃ V, V = p.v := ⟨_, rfl⟩
        have HPE : Hid (p = ⟨K, V⟩) := Lib.hid (by rw [hK, hV])
        have GR : Hid (∀ W, Calls Try.prog 11 #[.agg #[.string K, .string V]] W fun e w' => e = .returned (.bool (rightP p)) ∧ Below W.heap.size W w') := Lib.hid fun W => by
          rw [hK, hV]; exact right_any p HXP.out W
        rw [← hK, ← hV] at HP
        clear hp hK hV hkp
        obtain ⟨c0, c1⟩ := HP.out wr HB.out.1
        obtain ⟨d0, d1⟩ := HP.out wr.drew HB.out.1.drew
        have HC : Hid (∀ W, Below wr.heap.size wr W → Below w.heap.size w W) := Lib.hid fun W hb => below_mono HB.out.1 hb (Nat.le_refl _)
        have HOKA : Hid (BOk (foldB acc) ∧ (foldB acc).count = n1) := Lib.hid (by
          have h := foldB_ok acc HR.out (by rw [← HN1.out]; omega) acc.length
          rw [List.take_length] at h
          exact ⟨h, by rw [foldB_count, HN1.out]⟩)
        have AN0 : Hid (rightP p = false ∨ leS K (foldB acc).last = true → ∀ W, BkAt b b (foldB acc) W → Calls Try.prog 12 #[.pointer (some ⟨b, 0, none⟩), .string K, .string V] W fun e w' => e = .returned (.int .i64 1) ∧ W = w') := Lib.hid fun hno W hW => by
          have h := add_no hW p HXP.out (by rw [HPE.out] at hno ⊢; exact hno)
          rw [HPE.out] at h
          exact h
        have AY0 : Hid (rightP p = true → leS K (foldB acc).last = false → ∀ W, BkAt b b (foldB acc) W → b ≤ W.heap.size → Calls Try.prog 12 #[.pointer (some ⟨b, 0, none⟩), .string K, .string V] W fun e w' => e = .returned (.int .i64 0) ∧ BkAt b b (foldB (acc ++ [p])) w' ∧ Bek b W w') := Lib.hid fun hy hl W hW hbW => by
          have h := add_yes hW HOKA.out.1 p hy (by rw [HPE.out]; exact hl) (by rw [HOKA.out.2]; omega) hbW
          rw [← foldB_snoc] at h
          rw [HPE.out] at h ⊢
          exact h
        cases hr : rightP p with
        | false =>
          rw [hr] at GR
          have AN := Lib.hid (AN0.out (.inl hr))
          clear hr AN0 AY0
          by_cases hz : n1 = 0
          · have hz2 : ¬ (0 : Int) < (n1 : Int) := by omega
            have hz5 : decide (0 < n1) = false := by simp; omega
            have HZ := Lib.hid hz
            clear hz
            have CR : Hid (∀ d os, Calls Try.prog 11 #[.agg #[.string K, .string V]] (grow (redrawn wr d) os) fun e w'' => e = .returned (.bool false) ∧ ∃ p : Regrown, w'' = grow (redrawn wr p.d) p.os) := Lib.hid fun d os => Calls.regrown_of (GR.out _)
            have cg : ∀ d os, (grow (redrawn wr d) os).cell? (a.add (k * 2)) = some (.string K) ∧ (grow (redrawn wr d) os).cell? ⟨(a.add (k * 2)).block, (a.add (k * 2)).off + 1, none⟩ = some (.string V) := fun d os => HP.out _ (HC.out _ (below_regrown wr d os))
            have cg0 : ∀ d os, (grow (redrawn wr d) os).cell? (a.add (k * 2)) = some (.string K) := fun d os => (cg d os).1
            have cg1 : ∀ d os, (grow (redrawn wr d) os).cell? ⟨(a.add (k * 2)).block, (a.add (k * 2)).off + 1, none⟩ = some (.string V) := fun d os => (cg d os).2
            clear cg
            go_wp2_with fail
            refine wp_region_quiet_below (by kernel_rfl) (by kernel_rfl) ?_
            repeat (first | go_big_quiet_step (with_reducible exact CR.out _ _) | quiet_step (with_reducible exact CR.out _ _))
            refine wpQuiet_nil ?_
            intro _ hw'
            obtain ⟨⟨dq, osq⟩, hw''⟩ := hw'
            subst hw''
            have hbg := below_regrown wr dq osq
            clear cg0 cg1 c0 c1 d0 d1
            go_wp2_with fail
            obtain ⟨wg, hwg⟩ : ∃ wg, wg = grow (redrawn wr dq) osq := ⟨_, rfl⟩
            have HBG : Hid (Below w.heap.size w wg.drew ∧ b ≤ wg.drew.heap.size ∧ w.heap.size ≤ b) := Lib.hid (by rw [hwg]; exact ⟨(HC.out _ hbg).drew, Nat.le_trans HB.out.2.1 hbg.size, HB.out.2.2⟩)
            have KG : Hid (BkAt b b (foldB acc) wg.drew) := Lib.hid (by rw [hwg]; exact KB.out.under hbg.drew)
            have RG : Hid (wg.drew.ownsRow b 33 2 (.slice va n1 vc) n1 (pCells acc)) := Lib.hid (by rw [hwg]; exact row_stay R1.out fun g hg => hbg.block g (R1.out.lt g hg).2)
            refine wp_letter (fun W => wg = W) hwg ?_
            rintro _ rfl
            clear hwg hbg
            obtain ⟨d0, d1⟩ := HP.out wg.drew HBG.out.1
            first | go_region_with (go_at_call 12; refine (AN.out _ KG.out).mono ?_; rintro e w3 ⟨rfl, rfl⟩) | fail
            all_goals
              go_upto_if 75 with fail
              obtain ⟨w9, hw9⟩ : ∃ w9, w9 = wg.drew := ⟨_, rfl⟩
              have K2 := KG
              have R2 := RG
              have B2 := HBG
              rw [← hw9] at K2 R2 B2
              refine wp_letter (fun W => w9 = W) hw9 ?_
              rintro _ rfl
              clear hw9
              obtain ⟨n2, acc2, va2, vc2, HN2, HR2, K2, R2, hn2, rfl, rfl, rfl, rfl⟩ : ∃ (n2 : Nat) (acc2 : List PB) (va2 : Option Addr) (vc2 : Nat), Hid (n2 = acc2.length) ∧ Hid (∀ p ∈ acc2, rightP p = true) ∧ Hid (BkAt b b (foldB acc2) w9) ∧ Hid (w9.ownsRow b 33 2 (.slice va2 n2 vc2) n2 (pCells acc2)) ∧ n2 ≤ k + 1 ∧ (n2 = n1 ∧ acc2 = acc ∧ va2 = va ∧ vc2 = vc) := ⟨n1, acc, va, vc, HN1, HR, K2, R2, by omega, rfl, rfl, rfl, rfl⟩
              have hle : acc2.length = 0 := by rw [← HN2.out]; omega
              have hacc : acc2 = [] := List.eq_nil_of_length_eq_zero hle
              have HLAST : Hid ((foldB acc2).last = ⟨#[]⟩) := Lib.hid (by rw [foldB_last, hacc]; rfl)
              have hz0 : ¬ (0 : Int) < (n2 : Int) := by omega
              have hz1 : decide (0 < n2) = false := by simp; omega
              clear hle hacc
              have C1 : Hid (Calls Try.prog 13 #[.pointer (some ⟨b, 0, none⟩)] w9 fun e w' => e = .returned (.int .i64 n2) ∧ w9 = w') := Lib.hid (by
                have h := blen_any K2.out
                rw [foldB_count, ← HN2.out] at h
                exact h)
              have C2 := Lib.hid (blast_any K2.out)
              rw [HLAST.out] at C2
              go_wp2_with fail
              refine C1.out.mono ?_
              rintro e w10 ⟨rfl, rfl⟩
              go_wp2_with fail
              refine C2.out.mono ?_
              rintro e w10 ⟨rfl, rfl⟩
              go_wp2_with fail
              go_roundw
              case rel => exact ⟨k + 1, n2, acc2, by omega, by omega, by go_num, HN2, HR2, K2, R2, B2⟩
              case measure => simp [intOf]; omega
          · have hz2 : (0 : Int) < (n1 : Int) := by omega
            have CR : Hid (∀ d os, Calls Try.prog 11 #[.agg #[.string K, .string V]] (grow (redrawn wr d) os) fun e w'' => e = .returned (.bool false) ∧ ∃ p : Regrown, w'' = grow (redrawn wr p.d) p.os) := Lib.hid fun d os => Calls.regrown_of (GR.out _)
            have cg : ∀ d os, (grow (redrawn wr d) os).cell? (a.add (k * 2)) = some (.string K) ∧ (grow (redrawn wr d) os).cell? ⟨(a.add (k * 2)).block, (a.add (k * 2)).off + 1, none⟩ = some (.string V) := fun d os => HP.out _ (HC.out _ (below_regrown wr d os))
            have cg0 : ∀ d os, (grow (redrawn wr d) os).cell? (a.add (k * 2)) = some (.string K) := fun d os => (cg d os).1
            have cg1 : ∀ d os, (grow (redrawn wr d) os).cell? ⟨(a.add (k * 2)).block, (a.add (k * 2)).off + 1, none⟩ = some (.string V) := fun d os => (cg d os).2
            clear cg
            go_wp2_with fail
            refine wp_region_quiet_below (by kernel_rfl) (by kernel_rfl) ?_
            repeat (first | go_big_quiet_step (with_reducible exact CR.out _ _) | quiet_step (with_reducible exact CR.out _ _))
            refine wpQuiet_nil ?_
            intro _ hw'
            obtain ⟨⟨dq, osq⟩, hw''⟩ := hw'
            subst hw''
            have hbg := below_regrown wr dq osq
            clear cg0 cg1 c0 c1 d0 d1
            go_wp2_with fail
            obtain ⟨wg, hwg⟩ : ∃ wg, wg = grow (redrawn wr dq) osq := ⟨_, rfl⟩
            have HBG : Hid (Below w.heap.size w wg.drew ∧ b ≤ wg.drew.heap.size ∧ w.heap.size ≤ b) := Lib.hid (by rw [hwg]; exact ⟨(HC.out _ hbg).drew, Nat.le_trans HB.out.2.1 hbg.size, HB.out.2.2⟩)
            have KG : Hid (BkAt b b (foldB acc) wg.drew) := Lib.hid (by rw [hwg]; exact KB.out.under hbg.drew)
            have RG : Hid (wg.drew.ownsRow b 33 2 (.slice va n1 vc) n1 (pCells acc)) := Lib.hid (by rw [hwg]; exact row_stay R1.out fun g hg => hbg.block g (R1.out.lt g hg).2)
            refine wp_letter (fun W => wg = W) hwg ?_
            rintro _ rfl
            clear hwg hbg
            obtain ⟨d0, d1⟩ := HP.out wg.drew HBG.out.1
            first | go_region_with (go_at_call 12; refine (AN.out _ KG.out).mono ?_; rintro e w3 ⟨rfl, rfl⟩) | fail
            all_goals
              go_upto_if 75 with fail
              obtain ⟨w9, hw9⟩ : ∃ w9, w9 = wg.drew := ⟨_, rfl⟩
              have K2 := KG
              have R2 := RG
              have B2 := HBG
              rw [← hw9] at K2 R2 B2
              refine wp_letter (fun W => w9 = W) hw9 ?_
              rintro _ rfl
              clear hw9
              obtain ⟨n2, acc2, va2, vc2, HN2, HR2, K2, R2, hn2, rfl, rfl, rfl, rfl⟩ : ∃ (n2 : Nat) (acc2 : List PB) (va2 : Option Addr) (vc2 : Nat), Hid (n2 = acc2.length) ∧ Hid (∀ p ∈ acc2, rightP p = true) ∧ Hid (BkAt b b (foldB acc2) w9) ∧ Hid (w9.ownsRow b 33 2 (.slice va2 n2 vc2) n2 (pCells acc2)) ∧ n2 ≤ k + 1 ∧ (n2 = n1 ∧ acc2 = acc ∧ va2 = va ∧ vc2 = vc) := ⟨n1, acc, va, vc, HN1, HR, K2, R2, by omega, rfl, rfl, rfl, rfl⟩
              obtain ⟨m2, hm⟩ : ∃ m, n2 = m + 1 := ⟨n2 - 1, by omega⟩
              have hml : acc2.length = m2 + 1 := by rw [← HN2.out, hm]
              obtain ⟨g2, hg⟩ : ∃ g, va2 = some ⟨g, 0, none⟩ := by
                rcases R2.out.2 with ⟨hv0, hn⟩ | ⟨g, cap, cur, hv0, _⟩
                · omega
                · injection hv0 with e1 _ _; exact ⟨g, e1⟩
              subst hg
              have cl : w9.cell? ⟨g2, m2 * 2, none⟩ = some (.string (foldB acc2).last) := by
                rw [R2.out.cellAt (m2 * 2) (by omega), (pCells_at acc2 m2 (by omega)).1, foldB_last, lastB_get acc2 m2 hml]
              have em : (n2 : Int) - 1 = (m2 : Int) := by omega
              have em2 : (m2 : Int) < (n2 : Int) := by omega
              have em3 : (0 : Int) < (n2 : Int) := by omega
              have em0 : (0 : Int) ≤ (m2 : Int) := by omega
              have em4 : 0 < n2 := by omega
              clear hm hml
              have C1 : Hid (Calls Try.prog 13 #[.pointer (some ⟨b, 0, none⟩)] w9 fun e w' => e = .returned (.int .i64 n2) ∧ w9 = w') := Lib.hid (by
                have h := blen_any K2.out
                rw [foldB_count, ← HN2.out] at h
                exact h)
              have C2 := Lib.hid (blast_any K2.out)
              generalize (foldB acc2).last = LL at C2 cl
              go_wp2_with fail
              refine C1.out.mono ?_
              rintro e w10 ⟨rfl, rfl⟩
              go_wp2_with fail
              refine C2.out.mono ?_
              rintro e w10 ⟨rfl, rfl⟩
              go_wp2_with fail
              go_roundw
              case rel => exact ⟨k + 1, n2, acc2, by omega, by omega, by go_num, HN2, HR2, K2, R2, B2⟩
              case measure => simp [intOf]; omega
        | true =>
          rw [hr] at GR
          by_cases hz : n1 = 0
          · have hz2 : ¬ (0 : Int) < (n1 : Int) := by omega
            have hz5 : decide (0 < n1) = false := by simp; omega
            have HZ := Lib.hid hz
            clear hz
            have hz3 : decide ((0 : Int) < (n1 : Int)) = false := by simpa using hz2
            have AY := Lib.hid (AY0.out hr (by
              have : acc = [] := List.eq_nil_of_length_eq_zero (by rw [← HN1.out, HZ.out])
              rw [this]
              exact leS_none K (by have := (rightP_iff.1 hr).1; rw [HPE.out] at this; exact this)))
            have HR5 := Lib.hid hr
            clear hr AN0 AY0
            have CR : Hid (∀ d os, Calls Try.prog 11 #[.agg #[.string K, .string V]] (grow (redrawn wr d) os) fun e w'' => e = .returned (.bool true) ∧ ∃ p : Regrown, w'' = grow (redrawn wr p.d) p.os) := Lib.hid fun d os => Calls.regrown_of (GR.out _)
            have cg : ∀ d os, (grow (redrawn wr d) os).cell? (a.add (k * 2)) = some (.string K) ∧ (grow (redrawn wr d) os).cell? ⟨(a.add (k * 2)).block, (a.add (k * 2)).off + 1, none⟩ = some (.string V) := fun d os => HP.out _ (HC.out _ (below_regrown wr d os))
            have cg0 : ∀ d os, (grow (redrawn wr d) os).cell? (a.add (k * 2)) = some (.string K) := fun d os => (cg d os).1
            have cg1 : ∀ d os, (grow (redrawn wr d) os).cell? ⟨(a.add (k * 2)).block, (a.add (k * 2)).off + 1, none⟩ = some (.string V) := fun d os => (cg d os).2
            clear cg
            go_wp2_with fail
            refine wp_region_quiet_below (by kernel_rfl) (by kernel_rfl) ?_
            repeat (first | go_big_quiet_step (with_reducible exact CR.out _ _) | quiet_step (with_reducible exact CR.out _ _))
            refine wpQuiet_nil ?_
            intro _ hw'
            obtain ⟨⟨dq, osq⟩, hw''⟩ := hw'
            subst hw''
            have hbg := below_regrown wr dq osq
            clear cg0 cg1 c0 c1 d0 d1
            go_wp2_with fail
            obtain ⟨wg, hwg⟩ : ∃ wg, wg = grow (redrawn wr dq) osq := ⟨_, rfl⟩
            have HBG : Hid (Below w.heap.size w wg.drew ∧ b ≤ wg.drew.heap.size ∧ w.heap.size ≤ b) := Lib.hid (by rw [hwg]; exact ⟨(HC.out _ hbg).drew, Nat.le_trans HB.out.2.1 hbg.size, HB.out.2.2⟩)
            have KG : Hid (BkAt b b (foldB acc) wg.drew) := Lib.hid (by rw [hwg]; exact KB.out.under hbg.drew)
            have RG : Hid (wg.drew.ownsRow b 33 2 (.slice va n1 vc) n1 (pCells acc)) := Lib.hid (by rw [hwg]; exact row_stay R1.out fun g hg => hbg.block g (R1.out.lt g hg).2)
            refine wp_letter (fun W => wg = W) hwg ?_
            rintro _ rfl
            clear hwg hbg
            obtain ⟨d0, d1⟩ := HP.out wg.drew HBG.out.1
            first | go_region_with (go_at_call 12; refine (AY.out _ KG.out HBG.out.2.1).mono ?_; rintro e w3 ⟨rfl, h3, k3⟩) | fail
            all_goals
              have B3 : Hid (Below w.heap.size w w3 ∧ b ≤ w3.heap.size ∧ w.heap.size ≤ b) := Lib.hid ⟨HBG.out.1.trans ((k3.below HBG.out.2.1).mono HBG.out.2.2), Nat.le_trans HBG.out.2.1 k3.size, HBG.out.2.2⟩
              have K3 := Lib.hid h3
              have R3 := Lib.hid (k3.row RG.out (by decide) (by decide) (by decide))
              obtain ⟨c0, c1⟩ := HP.out w3 B3.out.1
              have hnew : (w3.alloc (.cells #[.string K, .string V] 33)).heap[w3.heap.size]? = some (.cells #[.string K, .string V] 33 (0, 0)) := heap_alloc_new w3 _
              have PN : Hid ((w3.alloc (.cells #[.string K, .string V] 33)).cell? ⟨w3.heap.size, 0, none⟩ = some (.string p.k) ∧ (w3.alloc (.cells #[.string K, .string V] 33)).cell? ⟨w3.heap.size, 1, none⟩ = some (.string p.v)) := Lib.hid (by rw [HPE.out]; exact ⟨cell_blk hnew 0, cell_blk hnew 1⟩)
              have BA : Hid (b ≤ (w3.alloc (.cells #[.string K, .string V] 33)).heap.size) := Lib.hid (by have := B3.out.2.1; simp; omega)
              have RA := Lib.hid (R3.out.alloc (.cells #[.string K, .string V] 33))
              clear h3 k3 hnew d0 d1
              go_upto_if 75 with (at_builtin; refine wpList_appP rfl _ _ rfl b n1 _ acc p HN1.out rfl RA.out w3.heap.size rfl PN.out (by omega) BA.out ?_; intro v2 w9 hrow hgr; obtain ⟨va2, vc2, rfl⟩ := row_form hrow)
              have K2 : Hid (BkAt b b (foldB (acc ++ [p])) w9) := Lib.hid ((K3.out.under ((Below.refl _ _).alloc (Nat.le_refl _) _)).grown RA.out hgr (by decide) (by decide) (by decide))
              have B2 : Hid (Below w.heap.size w w9 ∧ b ≤ w9.heap.size ∧ w.heap.size ≤ b) := Lib.hid ⟨((B3.out.1.alloc B3.out.1.size (.cells #[.string K, .string V] 33)).grown hgr (by have := B3.out.1.size; simp; omega) (fun g hg => Nat.le_trans B3.out.2.2 (RA.out.lt g hg).1)), Nat.le_trans BA.out hgr.size, B3.out.2.2⟩
              have R2 := Lib.hid hrow
              obtain ⟨acc2, hacc2⟩ : ∃ acc2, acc2 = acc ++ [p] := ⟨_, rfl⟩
              obtain ⟨n2, hn2e⟩ : ∃ n2, n2 = n1 + 1 := ⟨_, rfl⟩
              rw [← hacc2] at K2 R2
              have HN2 : Hid (n2 = acc2.length) := Lib.hid (by rw [hacc2, hn2e, HN1.out, List.length_append]; rfl)
              have HR2 : Hid (∀ p ∈ acc2, rightP p = true) := Lib.hid (fun q hq => by
                rw [hacc2] at hq
                rcases List.mem_append.1 hq with h | h
                · exact HR.out q h
                · rw [List.mem_singleton] at h; rw [h]; exact HR5.out)
              have hn2i : ((n1 : Int) + 1) = (n2 : Int) := by omega
              have hn2p : 0 < n2 := by omega
              have hn2 : n2 ≤ k + 1 := by omega
              rw [← hn2e] at R2 ⊢
              clear hrow hgr hacc2 hn2e hn2i K3 R3 B3 RA BA PN c0 c1
              obtain ⟨m2, hm⟩ : ∃ m, n2 = m + 1 := ⟨n2 - 1, by omega⟩
              have hml : acc2.length = m2 + 1 := by rw [← HN2.out, hm]
              obtain ⟨g2, hg⟩ : ∃ g, va2 = some ⟨g, 0, none⟩ := by
                rcases R2.out.2 with ⟨hv0, hn⟩ | ⟨g, cap, cur, hv0, _⟩
                · omega
                · injection hv0 with e1 _ _; exact ⟨g, e1⟩
              subst hg
              have cl : w9.cell? ⟨g2, m2 * 2, none⟩ = some (.string (foldB acc2).last) := by
                rw [R2.out.cellAt (m2 * 2) (by omega), (pCells_at acc2 m2 (by omega)).1, foldB_last, lastB_get acc2 m2 hml]
              have em : (n2 : Int) - 1 = (m2 : Int) := by omega
              have em2 : (m2 : Int) < (n2 : Int) := by omega
              have em3 : (0 : Int) < (n2 : Int) := by omega
              have em0 : (0 : Int) ≤ (m2 : Int) := by omega
              have em4 : 0 < n2 := by omega
              clear hm hml
              have C1 : Hid (Calls Try.prog 13 #[.pointer (some ⟨b, 0, none⟩)] w9 fun e w' => e = .returned (.int .i64 n2) ∧ w9 = w') := Lib.hid (by
                have h := blen_any K2.out
                rw [foldB_count, ← HN2.out] at h
                exact h)
              have C2 := Lib.hid (blast_any K2.out)
              generalize (foldB acc2).last = LL at C2 cl
              go_wp2_with fail
              refine C1.out.mono ?_
              rintro e w10 ⟨rfl, rfl⟩
              go_wp2_with fail
              refine C2.out.mono ?_
              rintro e w10 ⟨rfl, rfl⟩
              go_wp2_with fail
              go_roundw
              case rel => exact ⟨k + 1, n2, acc2, by omega, by omega, by go_num, HN2, HR2, K2, R2, B2⟩
              case measure => simp [intOf]; omega
          · obtain ⟨m, hm⟩ : ∃ m, n1 = m + 1 := ⟨n1 - 1, by omega⟩
            have hml : acc.length = m + 1 := by rw [← HN1.out, hm]
            obtain ⟨g, hg⟩ : ∃ g, va = some ⟨g, 0, none⟩ := by
              rcases R1.out.2 with ⟨hv0, hn⟩ | ⟨g, cap, cur, hv0, _⟩
              · omega
              · injection hv0 with e1 _ _; exact ⟨g, e1⟩
            subst hg
            obtain ⟨Q, hQ⟩ : ∃ Q, Q = (foldB acc).last := ⟨_, rfl⟩
            have hcl : ∀ W : World, Below wr.heap.size wr W → W.cell? ⟨g, m * 2, none⟩ = some (.string Q) := fun W hb => by
              have hrw : W.ownsRow b 33 2 (.slice (some ⟨g, 0, none⟩) n1 vc) n1 (pCells acc) := row_stay R1.out fun x hx => hb.block x (R1.out.lt x hx).2
              rw [hrw.cellAt (m * 2) (by omega), (pCells_at acc m (by omega)).1, hQ, foldB_last, lastB_get acc m hml]
            have cq : ∀ d os, (grow (redrawn wr d) os).cell? ⟨g, m * 2, none⟩ = some (.string Q) := fun d os => hcl _ (below_regrown wr d os)
            have em : (n1 : Int) - 1 = (m : Int) := by omega
            have ew : IntKind.i64.wrap ((n1 : Int) - 1) = (m : Int) := by rw [em, IntKind.wrap_i64]; omega
            have ew2 : IntKind.i64.wrap (m : Int) = (m : Int) := by rw [IntKind.wrap_i64]; omega
            have em2 : (m : Int) < (n1 : Int) := by omega
            have em3 : (0 : Int) < (n1 : Int) := by omega
            have em0 : (0 : Int) ≤ (m : Int) := by omega
            have em4 : 0 < n1 := by omega
            have em5 : decide (0 < n1) = true := by simpa using em4
            rw [← hQ] at AN0 AY0
            cases hb1 : Op.bytesLess K.toList Q.toList with
            | true =>
              have AN := Lib.hid (AN0.out (.inr (by unfold leS; rw [hb1]; rfl)))
              clear hr AN0 AY0 hcl hm hml hQ
              have CR : Hid (∀ d os, Calls Try.prog 11 #[.agg #[.string K, .string V]] (grow (redrawn wr d) os) fun e w'' => e = .returned (.bool true) ∧ ∃ p : Regrown, w'' = grow (redrawn wr p.d) p.os) := Lib.hid fun d os => Calls.regrown_of (GR.out _)
              have cg : ∀ d os, (grow (redrawn wr d) os).cell? (a.add (k * 2)) = some (.string K) ∧ (grow (redrawn wr d) os).cell? ⟨(a.add (k * 2)).block, (a.add (k * 2)).off + 1, none⟩ = some (.string V) := fun d os => HP.out _ (HC.out _ (below_regrown wr d os))
              have cg0 : ∀ d os, (grow (redrawn wr d) os).cell? (a.add (k * 2)) = some (.string K) := fun d os => (cg d os).1
              have cg1 : ∀ d os, (grow (redrawn wr d) os).cell? ⟨(a.add (k * 2)).block, (a.add (k * 2)).off + 1, none⟩ = some (.string V) := fun d os => (cg d os).2
              clear cg
              go_wp2_with fail
              refine wp_region_quiet_below (by kernel_rfl) (by kernel_rfl) ?_
              repeat (first | go_big_quiet_step (with_reducible exact CR.out _ _) | quiet_step (with_reducible exact CR.out _ _))
              refine wpQuiet_nil ?_
              intro _ hw'
              obtain ⟨⟨dq, osq⟩, hw''⟩ := hw'
              subst hw''
              have hbg := below_regrown wr dq osq
              clear cg0 cg1 cq c0 c1 d0 d1
              go_wp2_with fail
              obtain ⟨wg, hwg⟩ : ∃ wg, wg = grow (redrawn wr dq) osq := ⟨_, rfl⟩
              have HBG : Hid (Below w.heap.size w wg.drew ∧ b ≤ wg.drew.heap.size ∧ w.heap.size ≤ b) := Lib.hid (by rw [hwg]; exact ⟨(HC.out _ hbg).drew, Nat.le_trans HB.out.2.1 hbg.size, HB.out.2.2⟩)
              have KG : Hid (BkAt b b (foldB acc) wg.drew) := Lib.hid (by rw [hwg]; exact KB.out.under hbg.drew)
              have RG : Hid (wg.drew.ownsRow b 33 2 (.slice (some ⟨g, 0, none⟩) n1 vc) n1 (pCells acc)) := Lib.hid (by rw [hwg]; exact row_stay R1.out fun g hg => hbg.block g (R1.out.lt g hg).2)
              refine wp_letter (fun W => wg = W) hwg ?_
              rintro _ rfl
              clear hwg hbg
              obtain ⟨d0, d1⟩ := HP.out wg.drew HBG.out.1

              first | go_region_with (go_at_call 12; refine (AN.out _ KG.out).mono ?_; rintro e w3 ⟨rfl, rfl⟩) | fail
              all_goals
                go_upto_if 75 with fail
                obtain ⟨w9, hw9⟩ : ∃ w9, w9 = wg.drew := ⟨_, rfl⟩
                have K2 := KG
                have R2 := RG
                have B2 := HBG
                rw [← hw9] at K2 R2 B2
                refine wp_letter (fun W => w9 = W) hw9 ?_
                rintro _ rfl
                clear hw9
                obtain ⟨n2, acc2, vc2, HN2, HR2, K2, R2, hn2, rfl, rfl, rfl⟩ : ∃ (n2 : Nat) (acc2 : List PB) (vc2 : Nat), Hid (n2 = acc2.length) ∧ Hid (∀ p ∈ acc2, rightP p = true) ∧ Hid (BkAt b b (foldB acc2) w9) ∧ Hid (w9.ownsRow b 33 2 (.slice (some ⟨g, 0, none⟩) n2 vc2) n2 (pCells acc2)) ∧ n2 ≤ k + 1 ∧ (n2 = n1 ∧ acc2 = acc ∧ vc2 = vc) := ⟨n1, acc, vc, HN1, HR, K2, R2, by omega, rfl, rfl, rfl⟩
                obtain ⟨m2, hm⟩ : ∃ m, n2 = m + 1 := ⟨n2 - 1, by omega⟩
                have hml : acc2.length = m2 + 1 := by rw [← HN2.out, hm]
                clear em ew ew2 em2 em3 em0 em4 em5
                have cl : w9.cell? ⟨g, m2 * 2, none⟩ = some (.string (foldB acc2).last) := by
                  rw [R2.out.cellAt (m2 * 2) (by omega), (pCells_at acc2 m2 (by omega)).1, foldB_last, lastB_get acc2 m2 hml]
                have em : (n2 : Int) - 1 = (m2 : Int) := by omega
                have em2 : (m2 : Int) < (n2 : Int) := by omega
                have em3 : (0 : Int) < (n2 : Int) := by omega
                have em0 : (0 : Int) ≤ (m2 : Int) := by omega
                have em4 : 0 < n2 := by omega
                clear hm hml
                have C1 : Hid (Calls Try.prog 13 #[.pointer (some ⟨b, 0, none⟩)] w9 fun e w' => e = .returned (.int .i64 n2) ∧ w9 = w') := Lib.hid (by
                  have h := blen_any K2.out
                  rw [foldB_count, ← HN2.out] at h
                  exact h)
                have C2 := Lib.hid (blast_any K2.out)
                generalize (foldB acc2).last = LL at C2 cl
                go_wp2_with fail
                refine C1.out.mono ?_
                rintro e w10 ⟨rfl, rfl⟩
                go_wp2_with fail
                refine C2.out.mono ?_
                rintro e w10 ⟨rfl, rfl⟩
                go_wp2_with fail
                go_roundw
                case rel => exact ⟨k + 1, n2, acc2, by omega, by omega, by go_num, HN2, HR2, K2, R2, B2⟩
                case measure => simp [intOf]; omega
            | false =>
              cases hb2 : (K.toList == Q.toList) with
              | true =>
                have AN := Lib.hid (AN0.out (.inr (by unfold leS; rw [hb2]; simp)))
                clear hr AN0 AY0 hcl hm hml hQ
                have CR : Hid (∀ d os, Calls Try.prog 11 #[.agg #[.string K, .string V]] (grow (redrawn wr d) os) fun e w'' => e = .returned (.bool true) ∧ ∃ p : Regrown, w'' = grow (redrawn wr p.d) p.os) := Lib.hid fun d os => Calls.regrown_of (GR.out _)
                have cg : ∀ d os, (grow (redrawn wr d) os).cell? (a.add (k * 2)) = some (.string K) ∧ (grow (redrawn wr d) os).cell? ⟨(a.add (k * 2)).block, (a.add (k * 2)).off + 1, none⟩ = some (.string V) := fun d os => HP.out _ (HC.out _ (below_regrown wr d os))
                have cg0 : ∀ d os, (grow (redrawn wr d) os).cell? (a.add (k * 2)) = some (.string K) := fun d os => (cg d os).1
                have cg1 : ∀ d os, (grow (redrawn wr d) os).cell? ⟨(a.add (k * 2)).block, (a.add (k * 2)).off + 1, none⟩ = some (.string V) := fun d os => (cg d os).2
                clear cg
                go_wp2_with fail
                refine wp_region_quiet_below (by kernel_rfl) (by kernel_rfl) ?_
                repeat (first | go_big_quiet_step (with_reducible exact CR.out _ _) | quiet_step (with_reducible exact CR.out _ _))
                refine wpQuiet_nil ?_
                intro _ hw'
                obtain ⟨⟨dq, osq⟩, hw''⟩ := hw'
                subst hw''
                have hbg := below_regrown wr dq osq
                clear cg0 cg1 cq c0 c1 d0 d1
                go_wp2_with fail
                obtain ⟨wg, hwg⟩ : ∃ wg, wg = grow (redrawn wr dq) osq := ⟨_, rfl⟩
                have HBG : Hid (Below w.heap.size w wg.drew ∧ b ≤ wg.drew.heap.size ∧ w.heap.size ≤ b) := Lib.hid (by rw [hwg]; exact ⟨(HC.out _ hbg).drew, Nat.le_trans HB.out.2.1 hbg.size, HB.out.2.2⟩)
                have KG : Hid (BkAt b b (foldB acc) wg.drew) := Lib.hid (by rw [hwg]; exact KB.out.under hbg.drew)
                have RG : Hid (wg.drew.ownsRow b 33 2 (.slice (some ⟨g, 0, none⟩) n1 vc) n1 (pCells acc)) := Lib.hid (by rw [hwg]; exact row_stay R1.out fun g hg => hbg.block g (R1.out.lt g hg).2)
                refine wp_letter (fun W => wg = W) hwg ?_
                rintro _ rfl
                clear hwg hbg
                obtain ⟨d0, d1⟩ := HP.out wg.drew HBG.out.1

                first | go_region_with (go_at_call 12; refine (AN.out _ KG.out).mono ?_; rintro e w3 ⟨rfl, rfl⟩) | fail
                all_goals
                  go_upto_if 75 with fail
                  obtain ⟨w9, hw9⟩ : ∃ w9, w9 = wg.drew := ⟨_, rfl⟩
                  have K2 := KG
                  have R2 := RG
                  have B2 := HBG
                  rw [← hw9] at K2 R2 B2
                  refine wp_letter (fun W => w9 = W) hw9 ?_
                  rintro _ rfl
                  clear hw9
                  obtain ⟨n2, acc2, vc2, HN2, HR2, K2, R2, hn2, rfl, rfl, rfl⟩ : ∃ (n2 : Nat) (acc2 : List PB) (vc2 : Nat), Hid (n2 = acc2.length) ∧ Hid (∀ p ∈ acc2, rightP p = true) ∧ Hid (BkAt b b (foldB acc2) w9) ∧ Hid (w9.ownsRow b 33 2 (.slice (some ⟨g, 0, none⟩) n2 vc2) n2 (pCells acc2)) ∧ n2 ≤ k + 1 ∧ (n2 = n1 ∧ acc2 = acc ∧ vc2 = vc) := ⟨n1, acc, vc, HN1, HR, K2, R2, by omega, rfl, rfl, rfl⟩
                  obtain ⟨m2, hm⟩ : ∃ m, n2 = m + 1 := ⟨n2 - 1, by omega⟩
                  have hml : acc2.length = m2 + 1 := by rw [← HN2.out, hm]
                  clear em ew ew2 em2 em3 em0 em4 em5
                  have cl : w9.cell? ⟨g, m2 * 2, none⟩ = some (.string (foldB acc2).last) := by
                    rw [R2.out.cellAt (m2 * 2) (by omega), (pCells_at acc2 m2 (by omega)).1, foldB_last, lastB_get acc2 m2 hml]
                  have em : (n2 : Int) - 1 = (m2 : Int) := by omega
                  have em2 : (m2 : Int) < (n2 : Int) := by omega
                  have em3 : (0 : Int) < (n2 : Int) := by omega
                  have em0 : (0 : Int) ≤ (m2 : Int) := by omega
                  have em4 : 0 < n2 := by omega
                  clear hm hml
                  have C1 : Hid (Calls Try.prog 13 #[.pointer (some ⟨b, 0, none⟩)] w9 fun e w' => e = .returned (.int .i64 n2) ∧ w9 = w') := Lib.hid (by
                    have h := blen_any K2.out
                    rw [foldB_count, ← HN2.out] at h
                    exact h)
                  have C2 := Lib.hid (blast_any K2.out)
                  generalize (foldB acc2).last = LL at C2 cl
                  go_wp2_with fail
                  refine C1.out.mono ?_
                  rintro e w10 ⟨rfl, rfl⟩
                  go_wp2_with fail
                  refine C2.out.mono ?_
                  rintro e w10 ⟨rfl, rfl⟩
                  go_wp2_with fail
                  go_roundw
                  case rel => exact ⟨k + 1, n2, acc2, by omega, by omega, by go_num, HN2, HR2, K2, R2, B2⟩
                  case measure => simp [intOf]; omega
              | false =>
                have AY := Lib.hid (AY0.out hr (by unfold leS; rw [hb1, hb2]; rfl))
                have HR5 := Lib.hid hr
                clear hr AN0 AY0 hcl hm hml hQ
                have CR : Hid (∀ d os, Calls Try.prog 11 #[.agg #[.string K, .string V]] (grow (redrawn wr d) os) fun e w'' => e = .returned (.bool true) ∧ ∃ p : Regrown, w'' = grow (redrawn wr p.d) p.os) := Lib.hid fun d os => Calls.regrown_of (GR.out _)
                have cg : ∀ d os, (grow (redrawn wr d) os).cell? (a.add (k * 2)) = some (.string K) ∧ (grow (redrawn wr d) os).cell? ⟨(a.add (k * 2)).block, (a.add (k * 2)).off + 1, none⟩ = some (.string V) := fun d os => HP.out _ (HC.out _ (below_regrown wr d os))
                have cg0 : ∀ d os, (grow (redrawn wr d) os).cell? (a.add (k * 2)) = some (.string K) := fun d os => (cg d os).1
                have cg1 : ∀ d os, (grow (redrawn wr d) os).cell? ⟨(a.add (k * 2)).block, (a.add (k * 2)).off + 1, none⟩ = some (.string V) := fun d os => (cg d os).2
                clear cg
                go_wp2_with fail
                refine wp_region_quiet_below (by kernel_rfl) (by kernel_rfl) ?_
                repeat (first | go_big_quiet_step (with_reducible exact CR.out _ _) | quiet_step (with_reducible exact CR.out _ _))
                refine wpQuiet_nil ?_
                intro _ hw'
                obtain ⟨⟨dq, osq⟩, hw''⟩ := hw'
                subst hw''
                have hbg := below_regrown wr dq osq
                clear cg0 cg1 cq c0 c1 d0 d1
                go_wp2_with fail
                obtain ⟨wg, hwg⟩ : ∃ wg, wg = grow (redrawn wr dq) osq := ⟨_, rfl⟩
                have HBG : Hid (Below w.heap.size w wg.drew ∧ b ≤ wg.drew.heap.size ∧ w.heap.size ≤ b) := Lib.hid (by rw [hwg]; exact ⟨(HC.out _ hbg).drew, Nat.le_trans HB.out.2.1 hbg.size, HB.out.2.2⟩)
                have KG : Hid (BkAt b b (foldB acc) wg.drew) := Lib.hid (by rw [hwg]; exact KB.out.under hbg.drew)
                have RG : Hid (wg.drew.ownsRow b 33 2 (.slice (some ⟨g, 0, none⟩) n1 vc) n1 (pCells acc)) := Lib.hid (by rw [hwg]; exact row_stay R1.out fun g hg => hbg.block g (R1.out.lt g hg).2)
                refine wp_letter (fun W => wg = W) hwg ?_
                rintro _ rfl
                clear hwg hbg
                obtain ⟨d0, d1⟩ := HP.out wg.drew HBG.out.1

                first | go_region_with (go_at_call 12; refine (AY.out _ KG.out HBG.out.2.1).mono ?_; rintro e w3 ⟨rfl, h3, k3⟩) | fail
                all_goals
                  have B3 : Hid (Below w.heap.size w w3 ∧ b ≤ w3.heap.size ∧ w.heap.size ≤ b) := Lib.hid ⟨HBG.out.1.trans ((k3.below HBG.out.2.1).mono HBG.out.2.2), Nat.le_trans HBG.out.2.1 k3.size, HBG.out.2.2⟩
                  have K3 := Lib.hid h3
                  have R3 := Lib.hid (k3.row RG.out (by decide) (by decide) (by decide))
                  obtain ⟨c0, c1⟩ := HP.out w3 B3.out.1
                  have hnew : (w3.alloc (.cells #[.string K, .string V] 33)).heap[w3.heap.size]? = some (.cells #[.string K, .string V] 33 (0, 0)) := heap_alloc_new w3 _
                  have PN : Hid ((w3.alloc (.cells #[.string K, .string V] 33)).cell? ⟨w3.heap.size, 0, none⟩ = some (.string p.k) ∧ (w3.alloc (.cells #[.string K, .string V] 33)).cell? ⟨w3.heap.size, 1, none⟩ = some (.string p.v)) := Lib.hid (by rw [HPE.out]; exact ⟨cell_blk hnew 0, cell_blk hnew 1⟩)
                  have BA : Hid (b ≤ (w3.alloc (.cells #[.string K, .string V] 33)).heap.size) := Lib.hid (by have := B3.out.2.1; simp; omega)
                  have RA := Lib.hid (R3.out.alloc (.cells #[.string K, .string V] 33))
                  clear h3 k3 hnew d0 d1
                  go_upto_if 75 with (at_builtin; refine wpList_appP rfl _ _ rfl b n1 _ acc p HN1.out rfl RA.out w3.heap.size rfl PN.out (by omega) BA.out ?_; intro v2 w9 hrow hgr; obtain ⟨va2, vc2, rfl⟩ := row_form hrow)
                  have K2 : Hid (BkAt b b (foldB (acc ++ [p])) w9) := Lib.hid ((K3.out.under ((Below.refl _ _).alloc (Nat.le_refl _) _)).grown RA.out hgr (by decide) (by decide) (by decide))
                  have B2 : Hid (Below w.heap.size w w9 ∧ b ≤ w9.heap.size ∧ w.heap.size ≤ b) := Lib.hid ⟨((B3.out.1.alloc B3.out.1.size (.cells #[.string K, .string V] 33)).grown hgr (by have := B3.out.1.size; simp; omega) (fun g hg => Nat.le_trans B3.out.2.2 (RA.out.lt g hg).1)), Nat.le_trans BA.out hgr.size, B3.out.2.2⟩
                  have R2 := Lib.hid hrow
                  obtain ⟨acc2, hacc2⟩ : ∃ acc2, acc2 = acc ++ [p] := ⟨_, rfl⟩
                  obtain ⟨n2, hn2e⟩ : ∃ n2, n2 = n1 + 1 := ⟨_, rfl⟩
                  rw [← hacc2] at K2 R2
                  have HN2 : Hid (n2 = acc2.length) := Lib.hid (by rw [hacc2, hn2e, HN1.out, List.length_append]; rfl)
                  have HR2 : Hid (∀ p ∈ acc2, rightP p = true) := Lib.hid (fun q hq => by
                    rw [hacc2] at hq
                    rcases List.mem_append.1 hq with h | h
                    · exact HR.out q h
                    · rw [List.mem_singleton] at h; rw [h]; exact HR5.out)
                  have hn2i : ((n1 : Int) + 1) = (n2 : Int) := by omega
                  have hn2p : 0 < n2 := by omega
                  have hn2 : n2 ≤ k + 1 := by omega
                  rw [← hn2e] at R2 ⊢
                  clear hrow hgr hacc2 hn2e hn2i K3 R3 B3 RA BA PN c0 c1
                  obtain ⟨m2, hm⟩ : ∃ m, n2 = m + 1 := ⟨n2 - 1, by omega⟩
                  have hml : acc2.length = m2 + 1 := by rw [← HN2.out, hm]
                  obtain ⟨g2, hg⟩ : ∃ g, va2 = some ⟨g, 0, none⟩ := by
                    rcases R2.out.2 with ⟨hv0, hn⟩ | ⟨g, cap, cur, hv0, _⟩
                    · omega
                    · injection hv0 with e1 _ _; exact ⟨g, e1⟩
                  subst hg
                  have cl : w9.cell? ⟨g2, m2 * 2, none⟩ = some (.string (foldB acc2).last) := by
                    rw [R2.out.cellAt (m2 * 2) (by omega), (pCells_at acc2 m2 (by omega)).1, foldB_last, lastB_get acc2 m2 hml]
                  have em : (n2 : Int) - 1 = (m2 : Int) := by omega
                  have em2 : (m2 : Int) < (n2 : Int) := by omega
                  have em3 : (0 : Int) < (n2 : Int) := by omega
                  have em0 : (0 : Int) ≤ (m2 : Int) := by omega
                  have em4 : 0 < n2 := by omega
                  clear hm hml
                  have C1 : Hid (Calls Try.prog 13 #[.pointer (some ⟨b, 0, none⟩)] w9 fun e w' => e = .returned (.int .i64 n2) ∧ w9 = w') := Lib.hid (by
                    have h := blen_any K2.out
                    rw [foldB_count, ← HN2.out] at h
                    exact h)
                  have C2 := Lib.hid (blast_any K2.out)
                  generalize (foldB acc2).last = LL at C2 cl
                  go_wp2_with fail
                  refine C1.out.mono ?_
                  rintro e w10 ⟨rfl, rfl⟩
                  go_wp2_with fail
                  refine C2.out.mono ?_
                  rintro e w10 ⟨rfl, rfl⟩
                  go_wp2_with fail
                  go_roundw
                  case rel => exact ⟨k + 1, n2, acc2, by omega, by omega, by go_num, HN2, HR2, K2, R2, B2⟩
                  case measure => simp [intOf]; omega
      · obtain rfl : k = N := by omega
        have hok : BOk (foldB acc) := by
          have h := foldB_ok acc HR.out (by rw [← HN1.out]; omega) acc.length
          rwa [List.take_length] at h
        obtain ⟨st, hst⟩ : ∃ st : ByteArray, st = ⟨(outB (foldB acc)).toArray⟩ := ⟨_, rfl⟩
        have hsz : st.size = (outB (foldB acc)).length := by rw [hst, str_size]
        have hsm : (outB (foldB acc)).length ≤ 80000000 := by
          have h1 := outB_len (foldB acc)
          have h2 := hok.laid
          have h3 := hok.rs
          have h4 := hok.count
          omega
        have RB : Hid (Calls Try.prog 15 #[.slice va n1 vc] wr fun e w' => e = .returned (.string st) ∧ Below wr.heap.size wr w') := Lib.hid (by
          have h := rbytes_any va vc acc HR.out (by rw [← HN1.out]; omega) wr (PAt.of_row R1.out HN1.out)
          rw [← HN1.out, ← hst] at h
          exact h)
        have CB : Hid (∀ W, Below wr.heap.size wr W → Calls Try.prog 16 #[.pointer (some ⟨b, 0, none⟩)] W fun e w' => e = .returned (.string st) ∧ Below W.heap.size W w') := Lib.hid fun W hW => by
          have h := bbytes_any (KB.out.under hW) hok (Nat.le_trans HB.out.2.1 hW.size)
          rw [← hst] at h
          exact h
        have CS : Hid (∀ W, Below wr.heap.size wr W → Calls Try.prog 17 #[.pointer (some ⟨b, 0, none⟩)] W fun e w' => e = .returned (.int .i64 st.size) ∧ ∃ n, w' = W.drewN n) := Lib.hid fun W hW => by
          have h := bsize_any (KB.out.under hW) hok
          rw [← hsz] at h
          exact h
        have hsb : st.size ≤ 80000000 := by omega
        clear hst hsz hok hsm
        go_wp2_with fail
        refine RB.out.mono ?_
        rintro e w3 ⟨rfl, k3⟩
        have K3 := Lib.hid k3
        clear k3
        go_wp2_with fail
        refine (CB.out w3 K3.out).mono ?_
        rintro e w4 ⟨rfl, k4⟩
        have K4 := Lib.hid (below_mono K3.out k4 (Nat.le_refl _))
        clear k4
        go_wp2_with fail
        refine (CS.out w4 K4.out).mono ?_
        rintro e w5 ⟨rfl, nq, rfl⟩
        go_wp2_with fail
        go_ret
        exact ⟨rfl, below_drewN (below_mono HB.out.1 K4.out (Nat.le_refl _)) nq⟩
end Go.Proofs.Ytolmbccdkfbppaa
