/- The law BlockFinds walked: of any pairs, packed, each key's value, and where any key would stand. Conditions: those written at the theorem. -/
import Derived.Test.YtolmbccdkfbppaaBkW
import Derived.BigQuiet
namespace Go.Proofs.Ytolmbccdkfbppaa
open Go.RowKit
set_option linter.unusedVariables false
set_option linter.unusedSimpArgs false

set_option maxRecDepth 100000 in
set_option maxHeartbeats 8000000 in
theorem blockFinds_walk (ao : Option Addr) (cap : Nat) (ps : List PB) (key : ByteArray) (wk : key.size ≤ maxLen) (w : World) (hS : PAt w.heap.size ao ps w) (hlen : ps.length ≤ maxLen) (hx : ∀ x ∈ ps, x.k.size ≤ maxLen ∧ x.v.size ≤ maxLen) :
    Calls Try.prog 5 #[.slice ao ps.length cap, .string key] w fun e w' => e = .returned (.bool true) ∧ Below w.heap.size w w' := by
  have GG := Lib.hid (great_any ao cap ps hx hlen w.heap.size w hS)
  have GR : Hid (∀ W, Below w.heap.size w W → Calls Try.prog 24 #[.slice ao ps.length cap] W (RiseE ps W)) := Lib.hid fun W hW => rises_any ao cap ps hx hlen W ((hS.under hW).mono hW.size)
  obtain ⟨N, hN⟩ : ∃ N, N = ps.length := ⟨_, rfl⟩
  have HS := Lib.hid hS
  have HX := Lib.hid hx
  have HN := Lib.hid hN
  rw [← hN] at GG GR ⊢
  unfold maxLen at wk
  clear hS hx hN hlen
  go_enter Try.func5, Try.ntmps5
  go_wp2_with fail
  refine GG.out.mono ?_
  rintro e w1 ⟨⟨g, rfl, hg⟩, q, rfl⟩
  have K0 := Lib.hid (below_drewN (Below.refl w.heap.size w) q)
  clear GG
  cases g with
  | true =>
    clear hg
    go_wp2_with fail
    refine (awake_any _).mono ?_
    rintro e w9 ⟨rfl, k9⟩
    have K9 := Lib.hid (below_mono K0.out k9 (Nat.le_refl _))
    clear k9
    go_wp2_with fail
    go_ret
    exact ⟨rfl, K9.out⟩
  | false =>
    have hN200 := hg rfl
    clear hg
    by_cases hk3 : key.size ≤ 300
    · have hk3i : (key.size : Int) ≤ 300 := by omega
      go_wp2_with fail
      refine (GR.out _ K0.out).mono ?_
      rintro e w2 ⟨g, rfl, hgr, k2⟩
      have K2 := Lib.hid (below_mono K0.out k2 (Nat.le_refl _))
      clear k2
      cases g with
      | false =>
        clear hgr
        go_wp2_with fail
        refine (awake_any _).mono ?_
        rintro e w9 ⟨rfl, k9⟩
        have K9 := Lib.hid (below_mono K2.out k9 (Nat.le_refl _))
        clear k9
        go_wp2_with fail
        go_ret
        exact ⟨rfl, K9.out⟩
      | true =>
        have hri := hgr.1 rfl
        have HRI := Lib.hid hri
        clear hgr
        go_wp2_with fail
        refine (awake_any _).mono ?_
        rintro e w3 ⟨rfl, k3⟩
        have K3 := Lib.hid (below_mono K2.out k3 (Nat.le_refl _))
        have PA3 : PAt w3.heap.size ao ps w3 := (HS.out.under K3.out).mono K3.out.size
        obtain ⟨st, hst⟩ : ∃ st : ByteArray, st = ⟨(outB (foldB ps)).toArray⟩ := ⟨_, rfl⟩
        have hok := hri.bok
        have hsm : (outB (foldB ps)).length ≤ 80000000 := by
          have h1 := outB_len (foldB ps)
          have h2 := hok.laid
          have h3 := hok.rs
          have h4 := hok.count
          omega
        have hsz : st.size ≤ 80000000 := by rw [hst, str_size]; exact hsm
        have RB : Hid (Calls Try.prog 15 #[.slice ao N cap] w3 fun e w' => e = .returned (.string st) ∧ Below w3.heap.size w3 w') := Lib.hid (by
          have h := rbytes_any ao cap ps hri.ok hri.len w3 PA3
          rw [← HN.out, ← hst] at h
          exact h)
        have HIS : Hid (IsB st.data.toList ps) := Lib.hid ⟨hri, by rw [hst]⟩
        have CO : Hid (∀ W, Calls Try.prog 18 #[.string st] W (OpenP st.data.toList W)) := Lib.hid fun W => open_any st (by omega) W
        clear hst hsm hok hri k3 PA3
        go_wp2_with fail
        refine RB.out.mono ?_
        rintro e w4 ⟨rfl, k4⟩
        have K4 := Lib.hid (below_mono K3.out k4 (Nat.le_refl _))
        clear k4
        go_wp2_with fail
        refine (CO.out w4).mono ?_
        rintro e w5 (⟨rfl, hno, k5⟩ | ⟨bb, qs, rfl, hq, hkb, k5⟩)
        · exact absurd HIS.out (hno ps)
        · obtain rfl : qs = ps := IsB.one hq HIS.out
          have K5 := Lib.hid (below_mono K4.out k5 (Nat.le_refl _))
          have HKB := Lib.hid hkb
          clear hq hkb k5 CO RB
          obtain ⟨k0, hk0⟩ : ∃ k0 : ByteArray, k0 = key ++ ⟨#[0]⟩ := ⟨_, rfl⟩
          have hk0' : key ++ (⟨#[0]⟩ : ByteArray) = k0 := hk0.symm
          obtain ⟨W6, hW6⟩ : ∃ W6, W6 = w5.alloc (.cells #[.string key, .string k0] 9) := ⟨_, rfl⟩
          have hK6 : Below w5.heap.size w5 W6 := by rw [hW6]; exact (Below.refl _ _).alloc (Nat.le_refl _) _
          have hR6 : W6.ownsRow w5.heap.size 9 1 (.slice (some ⟨w5.heap.size, 0, none⟩) 2 2) 2 (strs [key, k0]) := by
            rw [hW6]
            exact World.ownsRow_lit (base := w5.heap.size) (e := 9) (size := 1) w5 #[.string key, .string k0] 2 (Nat.le_refl _) (by decide) rfl
          have HK6 := Lib.hid hK6
          have HR6 := Lib.hid hR6
          have hsk : key.size + 1 ≤ 9223372036854775807 := by omega
          clear hk0 hK6 hR6
          go_wp2_with fail
          refine wp_letter (fun X => W6 = X) hW6 ?_
          rintro _ rfl
          clear hW6
          go_loopw [7, 8] (fun v i wr => ∃ (k m : Nat) (ks : List ByteArray), k ≤ N ∧ m ≤ k + 2 ∧ i = .int .i64 k ∧ Hid (m = ks.length) ∧ Hid (wr.ownsRow w5.heap.size 9 1 v m (strs ks)) ∧ Hid (Below w5.heap.size w5 wr)) (fun _ i _ => N - (intOf i).toNat)
          case atStart => exact ⟨0, 2, [key, k0], by omega, by omega, rfl, Lib.hid rfl, HR6, HK6⟩
          case round =>
            obtain ⟨k, m, ks, hk, hm, rfl, HM, HROW, HB⟩ := hrel
            clear HR6 HK6
            have HBW : Hid (Below w.heap.size w wr) := Lib.hid (below_mono K5.out HB.out (Nat.le_refl _))
            by_cases hlt : k < N ∧ k < 60
            · obtain ⟨hl1, hl2⟩ := hlt
              have hki : (k : Int) < (N : Int) := by omega
              have hk60 : (k : Int) < 60 := by omega
              have hkn0 : (0 : Int) ≤ (k : Int) := by omega
              have hkp : k < qs.length := by rw [← HN.out]; exact hl1
              obtain ⟨a, rfl⟩ := HS.out.1 (by omega)
              have hc := (((HS.out.under HBW.out).2 a rfl (by omega)).2 k qs[k] (List.getElem?_eq_getElem hkp)).1
              generalize qs[k].k = K at *
              have hnew : (wr.alloc (.cells #[.string K] 9)).heap[wr.heap.size]? = some (.cells #[.string K] 9 (0, 0)) := heap_alloc_new wr _
              have PN : Hid ((wr.alloc (.cells #[.string K] 9)).cell? ⟨wr.heap.size, 0, none⟩ = some (.string K)) := Lib.hid (cell_blk hnew 0)
              have RA := Lib.hid (HROW.out.alloc (.cells #[.string K] 9))
              have BA := Lib.hid (HB.out.alloc HB.out.size (.cells #[.string K] 9))
              clear hkp hnew
              go_wp2_with (at_builtin; refine wpList_appT rfl _ _ rfl w5.heap.size m _ ks K HM.out rfl RA.out wr.heap.size rfl PN.out (by omega) BA.out.size ?_; intro v2 w9 hrow hgr)
              have B2 := Lib.hid (BA.out.grown hgr BA.out.size (fun g hg => (RA.out.lt g hg).1))
              have R2 := Lib.hid hrow
              clear hrow hgr
              go_roundw
              case rel => exact ⟨k + 1, m + 1, ks ++ [K], by omega, by omega, by go_num, Lib.hid (by rw [HM.out, List.length_append]; rfl), R2, B2⟩
              case measure => simp [intOf]; omega
            · have hm62 : m ≤ 1000 := by omega
              obtain ⟨va, vc, hv⟩ := row_form HROW.out
              subst hv
              have HRW := HROW
              clear HROW
              have hcs : ((k : Int) < (N : Int)) ∧ decide ((k : Int) < 60) = false ∨ ¬ (k : Int) < (N : Int) := by
                rcases Nat.lt_or_ge k N with h | h
                · left; exact ⟨by omega, by simp; omega⟩
                · right; omega
              clear hlt
              obtain ⟨wb, rfl⟩ : ∃ wb : World, wb = wr := ⟨_, rfl⟩
              rcases hcs with ⟨h1, h2⟩ | h1
              all_goals
                go_wp2_with fail
                go_loopw [9] (fun i wr => ∃ j : Nat, j ≤ m ∧ i = .int .i64 j ∧ Hid (Below wb.heap.size wb wr)) (fun i _ => m - (intOf i).toNat)
                case atStart => exact ⟨0, by omega, rfl, Lib.hid (Below.refl _ _)⟩
                case round =>
                  obtain ⟨j, hj, rfl, HBJ⟩ := hrel
                  have HBA : Hid (Below w.heap.size w wr) := Lib.hid (below_mono HBW.out HBJ.out (Nat.le_refl _))
                  by_cases hjm : j < m
                  · have hji : (j : Int) < (m : Int) := by omega
                    have hj0 : (0 : Int) ≤ (j : Int) := by omega
                    have hjk : j < ks.length := by rw [← HM.out]; exact hjm
                    obtain ⟨g, hg⟩ : ∃ g, va = some ⟨g, 0, none⟩ := by
                      rcases HRW.out.2 with ⟨hv0, hn⟩ | ⟨g, cap, cur, hv0, _⟩
                      · omega
                      · injection hv0 with e1 _ _; exact ⟨g, e1⟩
                    subst hg
                    obtain ⟨ky, hky⟩ : ∃ ky, ky = ks[j] := ⟨_, rfl⟩
                    have HCK : Hid (∀ W, Below wr.heap.size wr W → W.cell? ⟨g, j, none⟩ = some (.string ky)) := Lib.hid fun W hW => by
                      have hR := row_stay HRW.out (w' := W) fun x hx => (hW.block x (Nat.lt_of_lt_of_le (HRW.out.lt x hx).2 HBJ.out.size)).trans (HBJ.out.block x (HRW.out.lt x hx).2)
                      rw [hR.cellAt j (by omega), hky]
                      simp [strs, hjk]
                    have HKW : Hid (∀ W, Below wr.heap.size wr W → KbAt w4.heap.size bb qs W) := Lib.hid fun W hW => HKB.out.under (below_mono HB.out (below_mono HBJ.out hW (Nat.le_refl _)) (Nat.le_refl _))
                    have c0 := HCK.out wr (Below.refl _ _)
                    have FF : Hid (Calls Try.prog 25 #[.slice ao N cap, .string ky] wr (SeekE qs ky wr)) := Lib.hid (by
                      rw [HN.out]; exact find_any ao cap qs HRI.out ky w.heap.size wr (HS.out.under HBA.out))
                    clear hky hjk
                    go_wp2_with fail
                    refine FF.out.mono ?_
                    rintro e w7 ⟨n, rfl, hsk2, rfl⟩
                    have HSK := Lib.hid hsk2
                    have hnN : n ≤ N := by have := hsk2.1; have := HN.out; omega
                    clear hsk2
                    by_cases hnl : n < N
                    · have hnp : n < qs.length := by rw [← HN.out]; exact hnl
                      have hni : (n : Int) < (N : Int) := by omega
                      have hn0 : (0 : Int) ≤ (n : Int) := by omega
                      obtain ⟨p, hp⟩ : ∃ p, qs[n]? = some p := ⟨qs[n], List.getElem?_eq_getElem hnp⟩
                      obtain ⟨a, hao⟩ := HS.out.1 (by omega)
                      subst hao
                      have HCP : Hid (∀ W, Below w.heap.size w W → W.cell? (a.add (n * 2)) = some (.string p.k) ∧ W.cell? ⟨(a.add (n * 2)).block, (a.add (n * 2)).off + 1, none⟩ = some (.string p.v)) := Lib.hid fun W hW => ((HS.out.under hW).2 a rfl (by omega)).2 n p hp
                      have HP := Lib.hid hp
                      obtain ⟨P, hPe⟩ : ∃ P, P = p.k := ⟨_, rfl⟩
                      obtain ⟨V, hVe⟩ : ∃ V, V = p.v := ⟨_, rfl⟩
                      have HPE := Lib.hid hPe
                      have HVE := Lib.hid hVe
                      rw [← hPe, ← hVe] at HCP
                      clear hnp hp hPe hVe
                      cases heq : (P.toList == ky.toList) with
                      | true =>
                        have CG := Lib.hid (kget_yes (HKW.out wr (Below.refl _ _)) HRI.out ky n p HSK.out HP.out (by rw [← HPE.out]; exact heq))
                        rw [← HVE.out] at CG
                        go_wp2_with fail
                        refine CG.out.mono ?_
                        rintro e w8 ⟨rfl, k8⟩
                        have K8 := Lib.hid k8
                        have c1 := HCK.out w8 k8
                        have c2 := fun n => HCK.out (w8.drewN n) (below_drewN k8 n)
                        obtain ⟨d0, d1⟩ := HCP.out w8 (below_mono HBA.out k8 (Nat.le_refl _))
                        have d2 := fun n => (HCP.out (w8.drewN n) (below_drewN (below_mono HBA.out k8 (Nat.le_refl _)) n)).1
                        have d3 := fun n => (HCP.out (w8.drewN n) (below_drewN (below_mono HBA.out k8 (Nat.le_refl _)) n)).2
                        have CS : Hid (∀ n, Calls Try.prog 27 #[.pointer (some ⟨bb, 0, none⟩), .string ky] (w8.drewN n) (SeekE qs ky (w8.drewN n))) := Lib.hid fun n => kseek_any (HKW.out _ (below_drewN k8 n)) HRI.out ky
                        clear k8 c0 CG FF
                        go_wp2_with fail
                        go_quiet (fail)
                        go_wp2_with fail
                        refine (CS.out nq).mono ?_
                        rintro e w10 ⟨n2, rfl, hn2, rfl⟩
                        obtain rfl := HSK.out.one hn2
                        clear hn2
                        go_wp2_with fail
                        go_roundw
                        case rel => exact ⟨j + 1, by omega, by go_num, Lib.hid (below_drewN (below_mono HBJ.out K8.out (Nat.le_refl _)) nq)⟩
                        case measure => simp [intOf]; omega
                      | false =>
                        have CG := Lib.hid (kget_no (HKW.out wr (Below.refl _ _)) HRI.out ky n p HSK.out HP.out (by rw [← HPE.out]; exact heq))
                        go_wp2_with fail
                        refine CG.out.mono ?_
                        rintro e w8 ⟨rfl, k8⟩
                        have K8 := Lib.hid k8
                        have c1 := HCK.out w8 k8
                        have c2 := fun n => HCK.out (w8.drewN n) (below_drewN k8 n)
                        obtain ⟨d0, d1⟩ := HCP.out w8 (below_mono HBA.out k8 (Nat.le_refl _))
                        have d2 := fun n => (HCP.out (w8.drewN n) (below_drewN (below_mono HBA.out k8 (Nat.le_refl _)) n)).1
                        have d3 := fun n => (HCP.out (w8.drewN n) (below_drewN (below_mono HBA.out k8 (Nat.le_refl _)) n)).2
                        have CS : Hid (∀ n, Calls Try.prog 27 #[.pointer (some ⟨bb, 0, none⟩), .string ky] (w8.drewN n) (SeekE qs ky (w8.drewN n))) := Lib.hid fun n => kseek_any (HKW.out _ (below_drewN k8 n)) HRI.out ky
                        clear k8 c0 CG FF
                        go_wp2_with fail
                        go_quiet (fail)
                        go_wp2_with fail
                        refine (CS.out nq).mono ?_
                        rintro e w10 ⟨n2, rfl, hn2, rfl⟩
                        obtain rfl := HSK.out.one hn2
                        clear hn2
                        go_wp2_with fail
                        go_roundw
                        case rel => exact ⟨j + 1, by omega, by go_num, Lib.hid (below_drewN (below_mono HBJ.out K8.out (Nat.le_refl _)) nq)⟩
                        case measure => simp [intOf]; omega
                    · have hnN2 : n = N := by omega
                      have hni : ¬ (n : Int) < (N : Int) := by omega
                      have hnd : decide ((n : Int) < (N : Int)) = false := by simpa using hni
                      have hnd2 : decide (n < N) = false := by simpa using hnl
                      have CG := Lib.hid (kget_end (HKW.out wr (Below.refl _ _)) HRI.out ky (by rw [← HN.out, ← hnN2]; exact HSK.out))
                      clear hnN2
                      go_wp2_with fail
                      refine CG.out.mono ?_
                      rintro e w8 ⟨rfl, k8⟩
                      have K8 := Lib.hid k8
                      have c1 := HCK.out w8 k8
                      have c2 := fun n => HCK.out (w8.drewN n) (below_drewN k8 n)
                      have CS : Hid (∀ n, Calls Try.prog 27 #[.pointer (some ⟨bb, 0, none⟩), .string ky] (w8.drewN n) (SeekE qs ky (w8.drewN n))) := Lib.hid fun n => kseek_any (HKW.out _ (below_drewN k8 n)) HRI.out ky
                      clear k8 c0 CG FF
                      go_wp2_with fail
                      go_quiet (fail)
                      go_wp2_with fail
                      refine (CS.out nq).mono ?_
                      rintro e w10 ⟨n2, rfl, hn2, rfl⟩
                      obtain rfl := HSK.out.one hn2
                      clear hn2
                      go_wp2_with fail
                      go_roundw
                      case rel => exact ⟨j + 1, by omega, by go_num, Lib.hid (below_drewN (below_mono HBJ.out K8.out (Nat.le_refl _)) nq)⟩
                      case measure => simp [intOf]; omega
                  · obtain rfl : j = m := by omega
                    go_wp2_with fail
                    go_ret
                    exact ⟨rfl, HBA.out⟩
    · have hk3i : (300 : Int) < (key.size : Int) := by omega
      go_wp2_with fail
      refine (awake_any _).mono ?_
      rintro e w9 ⟨rfl, k9⟩
      have K9 := Lib.hid (below_mono K0.out k9 (Nat.le_refl _))
      clear k9
      go_wp2_with fail
      go_ret
      exact ⟨rfl, K9.out⟩
end Go.Proofs.Ytolmbccdkfbppaa
