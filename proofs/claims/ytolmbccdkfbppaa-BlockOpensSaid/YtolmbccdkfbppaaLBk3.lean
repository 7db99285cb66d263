/- The law BlockOpens walked: any bytes' block, or that they are none's; all its pairs, each by its place. Conditions: those written at the theorem. -/
import Derived.Test.YtolmbccdkfbppaaBkX
import Derived.BigQuiet
namespace Go.Proofs.Ytolmbccdkfbppaa
open Go.RowKit
set_option linter.unusedVariables false
set_option linter.unusedSimpArgs false

/-- A pair in a block of its own. -/
def PairIn (w X : World) (g : Nat) (K V : ByteArray) : Prop := Below w.heap.size w X ∧ X.heap[g]? = some (.cells #[.string K, .string V] 46 (0, 0))
theorem PairIn.new (w : World) (K V : ByteArray) : PairIn w (w.alloc (.cells #[.string K, .string V] 46)) w.heap.size K V := ⟨(Below.refl _ _).alloc (Nat.le_refl _) _, heap_alloc_new w _⟩
theorem PairIn.at {w X : World} {g : Nat} {K V : ByteArray} (h : PairIn w X g K V) : X.cell? ⟨g, 0, none⟩ = some (.string K) ∧ X.cell? ⟨g, 1, none⟩ = some (.string V) ∧ (∀ n, (X.drewN n).cell? ⟨g, 0, none⟩ = some (.string K)) ∧ ∀ n, (X.drewN n).cell? ⟨g, 1, none⟩ = some (.string V) :=
  ⟨cell_blk h.2 0, cell_blk h.2 1, fun n => cell_blk (w := X.drewN n) h.2 0, fun n => cell_blk (w := X.drewN n) h.2 1⟩
set_option maxRecDepth 100000 in
set_option maxHeartbeats 8000000 in
theorem blockOpens_walk (s : ByteArray) (t : Int) (ws : s.size ≤ maxLen) (wt : (Lit.int .i64 t).wf = true) (w : World) :
    Calls Try.prog 4 #[.string s, .int .i64 t] w fun e w' => e = .returned (.bool true) ∧ Below w.heap.size w w' := by
  have bt := bounds_i64 wt
  unfold maxLen at ws
  clear wt
  by_cases hs : s.size ≤ 4000
  · have CO : Hid (∀ W, Calls Try.prog 18 #[.string s] W (OpenP s.data.toList W)) := Lib.hid fun W => open_any s (by omega) W
    have CR : Hid (∀ W, Calls Try.prog 19 #[.string s] W (ROpenP s.data.toList W)) := Lib.hid fun W => ropen_any s hs W
    have hsi : (s.size : Int) ≤ 4000 := by omega
    go_enter Try.func4, Try.ntmps4
    go_wp2_with fail
    refine (awake_any _).mono ?_
    rintro e w1 ⟨rfl, k1⟩
    have K1 := Lib.hid k1
    clear k1
    go_wp2_with fail
    refine (CO.out w1).mono ?_
    rintro e w2 (⟨rfl, hno, k2⟩ | ⟨bb, ps, rfl, hq, hkb, k2⟩)
    · have HNO := Lib.hid hno
      have K2 := Lib.hid (below_mono K1.out k2 (Nat.le_refl _))
      clear hno k2
      go_wp2_with fail
      refine (CR.out w2).mono ?_
      rintro e w3 (⟨rfl, _, k3⟩ | ⟨va, vc, qs, rfl, hq, hpa, k3⟩)
      · have K3 := Lib.hid (below_mono K2.out k3 (Nat.le_refl _))
        clear k3
        go_wp2_with fail
        go_ret
        exact ⟨rfl, K3.out⟩
      · exact absurd hq (HNO.out qs)
    · have HQ := Lib.hid hq
      have HKB := Lib.hid hkb
      have K2 := Lib.hid (below_mono K1.out k2 (Nat.le_refl _))
      clear hq hkb k2
      go_wp2_with fail
      refine (CR.out w2).mono ?_
      rintro e w3 (⟨rfl, hno, k3⟩ | ⟨va, vc, qs, rfl, hq, hpa, k3⟩)
      · exact absurd HQ.out (hno ps)
      · obtain rfl : qs = ps := IsB.one hq HQ.out
        have K3 := Lib.hid (below_mono K2.out k3 (Nat.le_refl _))
        have HB3 : Hid (KbAt w1.heap.size bb qs w3) := Lib.hid (HKB.out.under k3)
        have PA := Lib.hid hpa
        have hl : qs.length ≤ 100000 := by
          have := HQ.out.1.len
          omega
        obtain ⟨N, hN⟩ : ∃ N, N = qs.length := ⟨_, rfl⟩
        have HN := Lib.hid hN
        have hN5 : N ≤ 100000 := by omega
        have CL : Hid (∀ W, Below w3.heap.size w3 W → Calls Try.prog 20 #[.pointer (some ⟨bb, 0, none⟩)] W fun e w' => e = .returned (.int .i64 N) ∧ W = w') := Lib.hid fun W hW => by
          rw [HN.out]; exact klen_any (HB3.out.under hW)
        have CA : Hid (∀ W, Below w3.heap.size w3 W → Calls Try.prog 22 #[.pointer (some ⟨bb, 0, none⟩)] W fun e w' => ∃ va vc, e = .returned (.slice va N vc) ∧ Hid (PAt w'.heap.size va qs w') ∧ Below W.heap.size W w') := Lib.hid fun W hW => by
          refine (kall_any (HB3.out.under hW) hl).mono fun e w' h => ?_
          obtain ⟨va, vc, h1, h2, h3⟩ := h
          exact ⟨va, vc, by rw [HN.out]; exact h1, Lib.hid h2, h3⟩
        have CS : Hid (∀ (bo : Option Addr) (cb : Nat) (B : Nat) W, PAt B bo qs W → Below w3.heap.size w3 W → Calls Try.prog 21 #[.slice bo N cb, .slice va N vc] W fun e w' => e = .returned (.bool true) ∧ ∃ n, w' = W.drewN n) := Lib.hid fun bo cb B W h1 h2 => by
          rw [HN.out]; exact same_any bo va cb vc qs hl B W.heap.size W h1 ((PA.out.under h2).mono h2.size)
        have CY : Hid (∀ W, Below w3.heap.size w3 W → ∀ (i : Nat) (p : PB), qs[i]? = some p → Calls Try.prog 23 #[.pointer (some ⟨bb, 0, none⟩), .int .i64 i] W fun e w' => e = .returned (.tuple #[.agg #[.string p.k, .string p.v], .bool true]) ∧ Below W.heap.size W w') := Lib.hid fun W hW i p hp => kat_yes (HB3.out.under hW) hl i p hp
        have CN : Hid (∀ W, Below w3.heap.size w3 W → ∀ i : Int, i < 0 ∨ (N : Int) ≤ i → Calls Try.prog 23 #[.pointer (some ⟨bb, 0, none⟩), .int .i64 i] W fun e w' => e = .returned (.tuple #[.agg #[.string ⟨#[]⟩, .string ⟨#[]⟩], .bool false]) ∧ Below W.heap.size W w') := Lib.hid fun W hW i hi => kat_no (HB3.out.under hW) hl i (by rw [← HN.out]; exact hi)
        have hNl : qs.length = N := hN.symm
        rw [hNl]
        clear hq hpa k3 hl hN hNl CO CR
        go_wp2_with fail
        refine (CL.out w3 (Below.refl _ _)).mono ?_
        rintro e w9 ⟨rfl, rfl⟩
        go_wp2_with fail
        refine (CA.out w3 (Below.refl _ _)).mono ?_
        rintro e w4 ⟨vb, vd, rfl, PB4, k4⟩
        have K4 := Lib.hid k4
        clear k4
        go_wp2_with fail
        refine (CS.out vb vd _ w4 PB4.out K4.out).mono ?_
        rintro e w9 ⟨rfl, n, rfl⟩
        have K5 := Lib.hid (below_drewN K4.out n)
        go_wp2_with fail
        go_loopw [9] (fun i wr => ∃ j : Nat, j ≤ N ∧ i = .int .i64 j ∧ Hid (Below w3.heap.size w3 wr)) (fun i _ => N - (intOf i).toNat)
        case atStart => exact ⟨0, by omega, rfl, K5⟩
        case round =>
          obtain ⟨j, hj, rfl, HBJ⟩ := hrel
          by_cases hjn : j < N
          · have hji : (j : Int) < (N : Int) := by omega
            have hj0 : (0 : Int) ≤ (j : Int) := by omega
            have hjk : j < qs.length := by rw [← HN.out]; exact hjn
            obtain ⟨p, hp⟩ : ∃ p, qs[j]? = some p := ⟨qs[j], List.getElem?_eq_getElem hjk⟩
            have C7 := Lib.hid (CY.out wr HBJ.out j p hp)
            obtain ⟨a, rfl⟩ := PA.out.1 (by omega)
            have HCP : Hid (∀ W, Below w3.heap.size w3 W → W.cell? (a.add (j * 2)) = some (.string p.k) ∧ W.cell? ⟨(a.add (j * 2)).block, (a.add (j * 2)).off + 1, none⟩ = some (.string p.v)) := Lib.hid fun W hW => ((PA.out.under hW).2 a rfl (by omega)).2 j p hp
            generalize p.k = K at *
            generalize p.v = V at *
            clear hjk hp
            go_wp2_with fail
            refine C7.out.mono ?_
            rintro e w7 ⟨rfl, k7⟩
            have K7 := Lib.hid (below_mono HBJ.out k7 (Nat.le_refl _))
            clear k7 C7
            have hn0 := heap_alloc_new w7 (.cells #[.string ⟨#[]⟩, .string ⟨#[]⟩] 46)
            have x0 := cell_blk hn0 0
            have x1 := cell_blk hn0 1
            have y0 := free_blk hn0 0
            have y1 := free_blk hn0 1
            simp only [List.getElem?_toArray] at x0 x1
            clear hn0
            go_upto_region 13 with fail
            refine wp_letter (fun X => PairIn w7 X w7.heap.size K V) (PairIn.new w7 K V) ?_
            intro w8 h8
            clear x0 x1 y0 y1
            have K8 := Lib.hid (below_mono K7.out h8.1 (Nat.le_refl _))
            obtain ⟨g8, hg8⟩ : ∃ g, g = w7.heap.size := ⟨_, rfl⟩
            rw [← hg8] at h8 ⊢
            obtain ⟨c0, c1, c2, c3⟩ := h8.at
            obtain ⟨d0, d1⟩ := HCP.out w8 K8.out
            have d2 := fun n => (HCP.out (w8.drewN n) (below_drewN K8.out n)).1
            have d3 := fun n => (HCP.out (w8.drewN n) (below_drewN K8.out n)).2
            clear h8 hg8
            go_quiet (fail)
            go_wp2_with fail
            go_roundw
            case rel => exact ⟨j + 1, by omega, by go_num, Lib.hid (below_drewN K8.out nq)⟩
            case measure => simp [intOf]; omega
          · obtain rfl : j = N := by omega
            have hz : ¬ (j : Int) < (j : Int) := by omega
            by_cases hin : 0 ≤ t ∧ t < (j : Int)
            · obtain ⟨h0, h1⟩ := hin
              have hjk : t.toNat < qs.length := by have := HN.out; omega
              obtain ⟨p, hp⟩ : ∃ p, qs[t.toNat]? = some p := ⟨qs[t.toNat], List.getElem?_eq_getElem hjk⟩
              have C7 := Lib.hid (CY.out wr HBJ.out t.toNat p hp)
              rw [show ((t.toNat : Nat) : Int) = t by omega] at C7
              generalize p.k = K at *
              generalize p.v = V at *
              clear hjk hp
              go_wp2_with fail
              refine C7.out.mono ?_
              rintro e w7 ⟨rfl, k7⟩
              have K7 := Lib.hid (below_mono HBJ.out k7 (Nat.le_refl _))
              clear k7 C7
              have hn0 := heap_alloc_new w7 (.cells #[.string ⟨#[]⟩, .string ⟨#[]⟩] 46)
              have x0 := cell_blk hn0 0
              have x1 := cell_blk hn0 1
              have y0 := free_blk hn0 0
              have y1 := free_blk hn0 1
              simp only [List.getElem?_toArray] at x0 x1
              clear hn0
              go_upto_region 16 with fail
              refine wp_letter (fun X => PairIn w7 X w7.heap.size K V) (PairIn.new w7 K V) ?_
              intro w8 h8
              clear x0 x1 y0 y1
              have K8 := Lib.hid (below_mono K7.out h8.1 (Nat.le_refl _))
              obtain ⟨g8, hg8⟩ : ∃ g, g = w7.heap.size := ⟨_, rfl⟩
              rw [← hg8] at h8 ⊢
              obtain ⟨c0, c1, c2, c3⟩ := h8.at
              clear h8 hg8
              go_wp2_with fail
              go_ret
              exact ⟨rfl, below_mono K3.out K8.out (Nat.le_refl _)⟩
            · have hout : t < 0 ∨ (j : Int) ≤ t := by omega
              have C7 := Lib.hid (CN.out wr HBJ.out t hout)
              clear hin
              go_wp2_with fail
              refine C7.out.mono ?_
              rintro e w7 ⟨rfl, k7⟩
              have K7 := Lib.hid (below_mono HBJ.out k7 (Nat.le_refl _))
              clear k7 C7
              have hn0 := heap_alloc_new w7 (.cells #[.string ⟨#[]⟩, .string ⟨#[]⟩] 46)
              have x0 := cell_blk hn0 0
              have x1 := cell_blk hn0 1
              have y0 := free_blk hn0 0
              have y1 := free_blk hn0 1
              simp only [List.getElem?_toArray] at x0 x1
              clear hn0
              go_upto_region 16 with fail
              refine wp_letter (fun X => PairIn w7 X w7.heap.size ⟨#[]⟩ ⟨#[]⟩) (PairIn.new w7 ⟨#[]⟩ ⟨#[]⟩) ?_
              intro w8 h8
              clear x0 x1 y0 y1
              have K8 := Lib.hid (below_mono K7.out h8.1 (Nat.le_refl _))
              obtain ⟨g8, hg8⟩ : ∃ g, g = w7.heap.size := ⟨_, rfl⟩
              rw [← hg8] at h8 ⊢
              obtain ⟨c0, c1, c2, c3⟩ := h8.at
              clear h8 hg8
              rcases hout with ho | ho
              · go_wp2_with fail
                go_ret
                exact ⟨rfl, below_mono K3.out K8.out (Nat.le_refl _)⟩
              · have hd : decide (t < (j : Int)) = false := by simp; omega
                go_wp2_with fail
                go_ret
                exact ⟨by simp [hd], below_mono K3.out K8.out (Nat.le_refl _)⟩
  · have hsi : (4000 : Int) < (s.size : Int) := by omega
    go_enter Try.func4, Try.ntmps4
    go_wp2_with fail
    refine (awake_any _).mono ?_
    rintro e w1 ⟨rfl, k1⟩
    have K1 := Lib.hid k1
    clear k1
    go_wp2_with fail
    go_ret
    exact ⟨rfl, K1.out⟩
end Go.Proofs.Ytolmbccdkfbppaa
