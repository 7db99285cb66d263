/- The law BlockBack walked: what was added is there, in order. Conditions: those written at the theorem. -/
import Derived.Test.YtolmbccdkfbppaaBkU
import Derived.BigQuiet
namespace Go.Proofs.Ytolmbccdkfbppaa
open Go.RowKit
set_option linter.unusedVariables false
set_option linter.unusedSimpArgs false

set_option maxRecDepth 100000 in
set_option maxHeartbeats 8000000 in
theorem blockBack_walk (ao : Option Addr) (cap : Nat) (ps : List PB) (w : World) (hS : PAt w.heap.size ao ps w) (hlen : ps.length ≤ maxLen) (hx : ∀ x ∈ ps, x.k.size ≤ maxLen ∧ x.v.size ≤ maxLen) :
    Calls Try.prog 6 #[.slice ao ps.length cap] w fun e w' => e = .returned (.bool true) ∧ Below w.heap.size w w' := by
  have GG := Lib.hid (great_any ao cap ps hx hlen w.heap.size w hS)
  obtain ⟨N, hN⟩ : ∃ N, N = ps.length := ⟨_, rfl⟩
  have HS := Lib.hid hS
  have HX := Lib.hid hx
  have HN := Lib.hid hN
  rw [← hN] at GG ⊢
  clear hS hx hN hlen
  go_enter Try.func6, Try.ntmps6
  go_wp2_with fail
  refine GG.out.mono ?_
  rintro e w1 ⟨⟨g, rfl, hg⟩, q, rfl⟩
  have K0 := Lib.hid (below_drewN (Below.refl w.heap.size w) q)
  clear GG
  cases g with
  | true =>
    clear hg
    go_wp2_with fail
    refine (awake_any _).mono ?_
    rintro e w2 ⟨rfl, k2⟩
    have K1 := Lib.hid (below_mono K0.out k2 (Nat.le_refl _))
    clear k2
    go_wp2_with fail
    go_ret
    exact ⟨rfl, K1.out⟩
  | false =>
    have hN200 := hg rfl
    clear hg
    go_wp2_with fail
    refine (awake_any _).mono ?_
    rintro e w2 ⟨rfl, k2⟩
    have K1 := Lib.hid (below_mono K0.out k2 (Nat.le_refl _))
    obtain ⟨b, hb⟩ : ∃ b, b = w2.heap.size := ⟨_, rfl⟩
    have hBk := BkAt.fresh w2
    have hK2 := (Below.refl w2.heap.size w2).alloc (Nat.le_refl _) (.cells #[.slice none 0 0, .slice none 0 0, .int .i64 0, .string ⟨#[]⟩] 29)
    have HB2 := Lib.hid hBk
    have HK3 : Hid (Below w.heap.size w (w2.alloc (.cells #[.slice none 0 0, .slice none 0 0, .int .i64 0, .string ⟨#[]⟩] 29)) ∧ w2.heap.size ≤ (w2.alloc (.cells #[.slice none 0 0, .slice none 0 0, .int .i64 0, .string ⟨#[]⟩] 29)).heap.size ∧ w.heap.size ≤ w2.heap.size) := Lib.hid ⟨below_mono K1.out hK2 (Nat.le_refl _), hK2.size, K1.out.size⟩
    clear k2 hBk hK2 K0
    go_wp2_with fail
    obtain ⟨WS, hWS⟩ : ∃ WS, WS = w2.alloc (.cells #[.slice none 0 0, .slice none 0 0, .int .i64 0, .string ⟨#[]⟩] 29) := ⟨_, rfl⟩
    refine wp_letter (fun W => WS = W) hWS ?_
    rintro _ rfl
    rw [← hWS, ← hb] at HK3
    rw [← hWS, ← hb] at HB2
    rw [← hb]
    clear hb hWS
    go_loopw [4, 5] (fun v i wr => ∃ (k n1 : Nat) (acc : List PB), k ≤ N ∧ n1 ≤ k ∧ i = .int .i64 k ∧ Hid (n1 = acc.length) ∧ Hid (Rise acc) ∧ Hid (BkAt b b (foldB acc) wr) ∧ Hid (wr.ownsRow b 33 2 v n1 (pCells acc)) ∧ Hid (Below w.heap.size w wr ∧ b ≤ wr.heap.size ∧ w.heap.size ≤ b)) (fun _ i _ => N - (intOf i).toNat)
    case atStart => exact ⟨0, 0, [], by omega, by omega, rfl, Lib.hid rfl, Lib.hid Rise.nil, HB2, Lib.hid (World.ownsRow_nil _ _ _ _), HK3⟩
    case round =>
      obtain ⟨k, n1, acc, hk, hn1, rfl, HN1, HR, KB, HROW0, HB⟩ := hrel
      obtain ⟨va, vc, hv⟩ := row_form HROW0.out
      subst hv
      have R1 := HROW0
      clear HROW0
      by_cases hlt : k < N
      · have hki : (k : Int) < (N : Int) := by omega
        have hk0 : (0 : Int) ≤ (k : Int) := by omega
        have hkp : k < ps.length := by rw [← HN.out]; exact hlt
        obtain ⟨a, rfl⟩ := HS.out.1 (by omega)
        have HP : Hid (∀ W, Below w.heap.size w W → W.cell? (a.add (k * 2)) = some (.string ps[k].k) ∧ W.cell? ⟨(a.add (k * 2)).block, (a.add (k * 2)).off + 1, none⟩ = some (.string ps[k].v)) := Lib.hid fun W hb => ((HS.out.under hb).2 a rfl (by omega)).2 k ps[k] (List.getElem?_eq_getElem hkp)
        have HXP := Lib.hid (HX.out ps[k] (List.getElem_mem hkp))
        obtain ⟨p, hp⟩ : ∃ p, p = ps[k] := ⟨_, rfl⟩
        rw [← hp] at HP HXP
        obtain ⟨K, hK⟩ : ∃ K, K = p.k := ⟨_, rfl⟩
        obtain ⟨V, hV⟩ : ∃ V, V = p.v := ⟨_, rfl⟩
        have HPE : Hid (p = ⟨K, V⟩) := Lib.hid (by rw [hK, hV])
        rw [← hK, ← hV] at HP
        have KD : Hid (BkAt b b (foldB acc) wr.drew) := Lib.hid (KB.out.drewN 1)
        have HBD : Hid (Below w.heap.size w wr.drew ∧ b ≤ wr.drew.heap.size) := Lib.hid ⟨HB.out.1.drew, HB.out.2.1⟩
        have RD : Hid (wr.drew.ownsRow b 33 2 (.slice va n1 vc) n1 (pCells acc)) := Lib.hid (row_stay R1.out fun _ _ => rfl)
        obtain ⟨d0, d1⟩ := HP.out wr.drew HBD.out.1
        by_cases hc : rightP p = true ∧ leS p.k (lastB acc) = false ∧ acc.length < 4096
        · have AY := Lib.hid (add_sure KD.out HR.out p hc HBD.out.2)
          have HR2 := Lib.hid (HR.out.snoc hc.1 hc.2.1 hc.2.2)
          rw [← hK, ← hV] at AY
          clear hp hK hV hkp hc
          go_wp2_with fail
          first | go_region_with (go_at_call 12; refine AY.out.mono ?_; rintro e w3 ⟨rfl, h3, k3⟩) | fail
          all_goals
            have B3 : Hid (Below w.heap.size w w3 ∧ b ≤ w3.heap.size ∧ w.heap.size ≤ b) := Lib.hid ⟨HBD.out.1.trans ((k3.below HBD.out.2).mono HB.out.2.2), Nat.le_trans HBD.out.2 k3.size, HB.out.2.2⟩
            have K3 := Lib.hid h3
            have R3 := Lib.hid (k3.row RD.out (by decide) (by decide) (by decide))
            obtain ⟨c0, c1⟩ := HP.out w3 B3.out.1
            have hnew : (w3.alloc (.cells #[.string K, .string V] 33)).heap[w3.heap.size]? = some (.cells #[.string K, .string V] 33 (0, 0)) := heap_alloc_new w3 _
            have PN : Hid ((w3.alloc (.cells #[.string K, .string V] 33)).cell? ⟨w3.heap.size, 0, none⟩ = some (.string p.k) ∧ (w3.alloc (.cells #[.string K, .string V] 33)).cell? ⟨w3.heap.size, 1, none⟩ = some (.string p.v)) := Lib.hid (by rw [HPE.out]; exact ⟨cell_blk hnew 0, cell_blk hnew 1⟩)
            have BA : Hid (b ≤ (w3.alloc (.cells #[.string K, .string V] 33)).heap.size) := Lib.hid (by have := B3.out.2.1; simp; omega)
            have RA := Lib.hid (R3.out.alloc (.cells #[.string K, .string V] 33))
            clear h3 k3 hnew d0 d1
            go_wp2_with (at_builtin; refine wpList_appP rfl _ _ rfl b n1 _ acc p HN1.out rfl RA.out w3.heap.size rfl PN.out (by omega) BA.out ?_; intro v2 w9 hrow hgr)
            have K2 : Hid (BkAt b b (foldB (acc ++ [p])) w9) := Lib.hid ((K3.out.under ((Below.refl _ _).alloc (Nat.le_refl _) _)).grown RA.out hgr (by decide) (by decide) (by decide))
            have B2 : Hid (Below w.heap.size w w9 ∧ b ≤ w9.heap.size ∧ w.heap.size ≤ b) := Lib.hid ⟨((B3.out.1.alloc B3.out.1.size (.cells #[.string K, .string V] 33)).grown hgr (by have := B3.out.1.size; simp; omega) (fun g hg => Nat.le_trans B3.out.2.2 (RA.out.lt g hg).1)), Nat.le_trans BA.out hgr.size, B3.out.2.2⟩
            have R2 := Lib.hid hrow
            clear hrow hgr
            go_roundw
            case rel => exact ⟨k + 1, n1 + 1, acc ++ [p], by omega, by omega, by go_num, Lib.hid (by rw [HN1.out, List.length_append]; rfl), HR2, K2, R2, B2⟩
            case measure => simp [intOf]; omega
        · have AN := Lib.hid (add_deny KD.out HR.out p HXP.out hc HBD.out.2)
          rw [← hK, ← hV] at AN
          clear hp hK hV hkp hc
          go_wp2_with fail
          first | go_region_with (go_at_call 12; refine AN.out.mono ?_; rintro e w3 ⟨E, hE, rfl, rfl⟩) | fail
          all_goals
            go_wp2_with fail
            go_roundw
            case rel => exact ⟨k + 1, n1, acc, by omega, by omega, by go_num, HN1, HR, KD, RD, Lib.hid ⟨HBD.out.1, HBD.out.2, HB.out.2.2⟩⟩
            case measure => simp [intOf]; omega
      · obtain rfl : k = N := by omega
        have hok := HR.out.bok
        obtain ⟨st, hst⟩ : ∃ st : ByteArray, st = ⟨(outB (foldB acc)).toArray⟩ := ⟨_, rfl⟩
        have hsm : (outB (foldB acc)).length ≤ 80000000 := by
          have h1 := outB_len (foldB acc)
          have h2 := hok.laid
          have h3 := hok.rs
          have h4 := hok.count
          omega
        have hsz : st.size ≤ 80000000 := by rw [hst, str_size]; exact hsm
        have CB : Hid (Calls Try.prog 16 #[.pointer (some ⟨b, 0, none⟩)] wr fun e w' => e = .returned (.string st) ∧ Below wr.heap.size wr w') := Lib.hid (by
          have h := bbytes_any KB.out hok HB.out.2.1
          rw [← hst] at h
          exact h)
        have HIS : Hid (IsB st.data.toList acc) := Lib.hid ⟨HR.out, by rw [hst]⟩
        have CO : Hid (∀ W, Calls Try.prog 18 #[.string st] W (OpenP st.data.toList W)) := Lib.hid fun W => open_any st (by omega) W
        clear hst hsm hok
        go_wp2_with fail
        refine CB.out.mono ?_
        rintro e w3 ⟨rfl, k3⟩
        have K3 := Lib.hid k3
        clear k3
        go_wp2_with fail
        refine (CO.out w3).mono ?_
        rintro e w4 (⟨rfl, hno, k4⟩ | ⟨bb, qs, rfl, hq, hkb, k4⟩)
        · exact absurd HIS.out (hno acc)
        · obtain rfl : qs = acc := IsB.one hq HIS.out
          have K4 := Lib.hid (below_mono K3.out k4 (Nat.le_refl _))
          have HKB := Lib.hid hkb
          have hq4 : qs.length ≤ 100000 := by have := HR.out.len; omega
          have CA := Lib.hid (kall_any hkb hq4)
          rw [← HN1.out] at hq4
          clear hq hkb k4
          go_wp2_with fail
          refine CA.out.mono ?_
          rintro e w5 ⟨va5, vc5, rfl, hp5, k5⟩
          have K5 := Lib.hid (below_mono K4.out k5 (Nat.le_refl _))
          have SA := Lib.hid (same_any va5 va vc5 vc qs (by have := HR.out.len; omega) w5.heap.size wr.heap.size w5 hp5 ((PAt.of_row R1.out HN1.out).under K5.out))
          have CL : Hid (∀ n, Calls Try.prog 13 #[.pointer (some ⟨b, 0, none⟩)] (w5.drewN n) fun e w' => e = .returned (.int .i64 n1) ∧ w5.drewN n = w') := Lib.hid (fun n => by
            have h := blen_any ((KB.out.under K5.out).drewN n)
            rw [foldB_count, ← HN1.out] at h
            exact h)
          rw [← HN1.out] at SA ⊢
          clear hp5 k5
          go_wp2_with fail
          refine SA.out.mono ?_
          rintro e w6 ⟨rfl, nq, rfl⟩
          go_wp2_with fail
          refine (CL.out nq).mono ?_
          rintro e w7 ⟨rfl, rfl⟩
          go_wp2_with fail
          go_ret
          exact ⟨rfl, below_drewN (below_mono HB.out.1 K5.out (Nat.le_refl _)) nq⟩
end Go.Proofs.Ytolmbccdkfbppaa
