/- The law EditOverlaps of layer 12: two ranges in order. Conditions: those written at each theorem. -/
import Derived.Test.YtchflkibbdfeaaaEdB
namespace Go.Proofs.Ytchflkibbdfeaaa
open Go.RowKit Go.Sort
set_option linter.unusedVariables false
set_option linter.unusedSimpArgs false
set_option maxRecDepth 100000 in
set_option maxHeartbeats 4000000 in
theorem awake_any (w : World) : Calls Try.prog 8 #[] w fun e w' => e = .returned (.bool true) ∧ Below w.heap.size w w' := by
  go_enter Try.func8, Try.ntmps8
  have hF : F0 w.heap.size (w.alloc (.cells f0 47)) := ⟨f0, heap_alloc_new w _, fun _ _ => rfl⟩
  have hb : Below w.heap.size w (w.alloc (.cells f0 47)) := (Below.refl _ _).alloc (Nat.le_refl _) _
  have CA := Lib.hid (apply0 hF)
  have HB := Lib.hid hb
  clear hF hb
  go_upto_region 2 with (go_at_call 19; (with_reducible refine CA.out.mono ?_); rintro e w1 ⟨g2, c2, rfl, hc, hF, hb1⟩; have HF := Lib.hid hF; have HB1 := Lib.hid (below_mono HB.out hb1 (Nat.le_refl _)); clear hF hb1)
  refine wp_letter (fun W => Below w1.heap.size w1 W ∧ W.heap[w1.heap.size]? = some (.cells #[.int .i64 0, .int .i64 2, .int .i64 0, .slice (some ⟨g2, 0, none⟩) 1 c2] 52 (0, 0))) ⟨(Below.refl _ _).alloc (Nat.le_refl _) _, heap_alloc_new w1 _⟩ ?_
  rintro w2 ⟨hb2, hv⟩
  have v0 := cell_blk hv 0
  have v1 := cell_blk hv 1
  have v2 := cell_blk hv 2
  have v3 := cell_blk hv 3
  simp only [List.getElem?_toArray] at v0 v1 v2 v3
  have CR := Lib.hid (right_one hc (HF.out.below hb2))
  have HB2 := Lib.hid (below_mono HB1.out hb2 (Nat.le_refl _))
  clear hb2 hv
  go_wp2_with (go_at_call 20; (with_reducible refine CR.out.mono ?_); rintro e w3 ⟨rfl, hb3⟩; have HB3 := Lib.hid (below_mono HB2.out hb3 (Nat.le_refl _)); clear hb3)
  go_ret
  exact ⟨rfl, HB3.out⟩
theorem six_cells {w : World} {k : Nat} {c0 c1 c2 c3 c4 c5 : Value} {t : TypeId} (h : w.heap[k]? = some (.cells #[c0, c1, c2, c3, c4, c5] t (0, 0))) : w.cell? ⟨k, 0, none⟩ = some c0 ∧ w.cell? ⟨k, 1, none⟩ = some c1 ∧ w.cell? ⟨k, 2, none⟩ = some c2 ∧ w.cell? ⟨k, 3, none⟩ = some c3 ∧ w.cell? ⟨k, 4, none⟩ = some c4 ∧ w.cell? ⟨k, 5, none⟩ = some c5 :=
  ⟨cell_blk h 0, cell_blk h 1, cell_blk h 2, cell_blk h 3, cell_blk h 4, cell_blk h 5⟩
def Rb (e : Ending) : Prop := ∃ r, e = .returned (.bool r)
theorem Rb.mk (r : Bool) : Rb (.returned (.bool r)) := ⟨r, rfl⟩
set_option maxRecDepth 100000 in
theorem great_two {b : Nat} {K1 T1 x1 y1 K2 T2 x2 y2 : Value} {a1 l1 a2 l2 : ByteArray} {w : World} (h : w.heap[b]? = some (.cells #[K1, T1, .string a1, .string l1, x1, y1, K2, T2, .string a2, .string l2, x2, y2] 45 (0, 0))) : Calls Try.prog 7 #[.slice (some ⟨b, 0, none⟩) 2 2] w fun e w' => Rb e ∧ w = w' := by
  go_enter Try.func7, Try.ntmps7
  have c2 := cell_blk h 2
  have c3 := cell_blk h 3
  have c8 := cell_blk h 8
  have c9 := cell_blk h 9
  simp only [List.getElem?_toArray] at c2 c3 c8 c9
  clear h
  go_wp2_with fail
  go_loopw [3] (fun i wr => ∃ j : Nat, j ≤ 2 ∧ i = .int .i64 j ∧ w = wr) (fun i _ => 2 - (intOf i).toNat)
  case atStart => exact ⟨0, by omega, rfl, rfl⟩
  case round =>
    obtain ⟨j, hj, rfl, rfl⟩ := hrel
    match j, hj with
    | 0, _ =>
      go_wp2_with fail
      all_goals first | (go_ret; exact ⟨Rb.mk _, rfl⟩) | exact ⟨⟨1, by omega, rfl, trivial⟩, by simp [intOf]⟩ | (go_roundw <;> first | exact ⟨1, by omega, rfl, rfl⟩ | simp [intOf])
    | 1, _ =>
      go_wp2_with fail
      all_goals first | (go_ret; exact ⟨Rb.mk _, rfl⟩) | exact ⟨⟨2, by omega, rfl, trivial⟩, by simp [intOf]⟩ | (go_roundw <;> first | exact ⟨2, by omega, rfl, rfl⟩ | simp [intOf])
    | 2, _ =>
      go_wp2_with fail
      go_ret
      exact ⟨Rb.mk _, rfl⟩
def ov (a1 l1 a2 l2 : ByteArray) : Bool := !Op.bytesLess l1.toList a2.toList && !Op.bytesLess l2.toList a1.toList
theorem ov_comm (a1 l1 a2 l2 : ByteArray) : ov a2 l2 a1 l1 = ov a1 l1 a2 l2 := Bool.and_comm _ _
set_option maxRecDepth 100000 in
theorem overlap_calls (K1 T1 x1 y1 K2 T2 x2 y2 : Value) (a1 l1 a2 l2 : ByteArray) (w : World) : Calls Try.prog 17 #[.agg #[K1, T1, .string a1, .string l1, x1, y1], .agg #[K2, T2, .string a2, .string l2, x2, y2]] w fun e w' => e = .returned (.bool (ov a1 l1 a2 l2)) ∧ Below w.heap.size w w' := by
  have hb (x y : Obj) : Below w.heap.size w ((w.alloc x).alloc y) := ((Below.refl _ _).alloc (Nat.le_refl _) _).alloc (by simp) _
  go_enter Try.func17, Try.ntmps17
  cases h1 : Op.bytesLess l1.toList a2.toList
  · go_wp2_with fail
    go_ret
    exact ⟨by simp [ov, h1], hb _ _⟩
  · go_wp2_with fail
    go_ret
    exact ⟨by simp [ov, h1], hb _ _⟩
set_option maxRecDepth 100000 in
theorem ref_calls (K1 T1 x1 y1 K2 T2 x2 y2 : Value) (a1 l1 a2 l2 : ByteArray) (w : World) : Calls Try.prog 18 #[.agg #[K1, T1, .string a1, .string l1, x1, y1], .agg #[K2, T2, .string a2, .string l2, x2, y2]] w fun e w' => e = .returned (.bool (ov a1 l1 a2 l2)) ∧ Below w.heap.size w w' := by
  have hb (x y : Obj) : Below w.heap.size w ((w.alloc x).alloc y) := ((Below.refl _ _).alloc (Nat.le_refl _) _).alloc (by simp) _
  go_enter Try.func18, Try.ntmps18
  cases h1 : Op.bytesLess l1.toList a2.toList
  · go_wp2_with fail
    go_ret
    exact ⟨by simp [ov, h1], hb _ _⟩
  · go_wp2_with fail
    go_ret
    exact ⟨by simp [ov, h1], hb _ _⟩
set_option maxRecDepth 100000 in
set_option maxHeartbeats 4000000 in
theorem overlaps_walk (K1 T1 x1 y1 K2 T2 x2 y2 : Value) (a1 l1 a2 l2 : ByteArray) (w : World) : Calls Try.prog 5 #[.agg #[K1, T1, .string a1, .string l1, x1, y1], .agg #[K2, T2, .string a2, .string l2, x2, y2]] w fun e w' => e = .returned (.bool true) ∧ Below w.heap.size w w' := by
  obtain ⟨w1, hw1⟩ : ∃ x, x = (w.alloc (.cells #[K1, T1, .string a1, .string l1, x1, y1] 45)).alloc (.cells #[K2, T2, .string a2, .string l2, x2, y2] 45) := ⟨_, rfl⟩
  have hb1 : Below w.heap.size w w1 := by rw [hw1]; exact ((Below.refl _ _).alloc (Nat.le_refl _) _).alloc (by simp) _
  have hx : w1.heap[w.heap.size]? = some (.cells #[K1, T1, .string a1, .string l1, x1, y1] 45 (0, 0)) := by
    rw [hw1, Below.heap_alloc _ _ _ (by simp)]; exact heap_alloc_new w _
  have hy : w1.heap[w.heap.size + 1]? = some (.cells #[K2, T2, .string a2, .string l2, x2, y2] 45 (0, 0)) := by
    rw [hw1]
    have := heap_alloc_new (w.alloc (.cells #[K1, T1, .string a1, .string l1, x1, y1] 45)) (.cells #[K2, T2, .string a2, .string l2, x2, y2] 45)
    simpa using this
  obtain ⟨r0, hr0⟩ : ∃ r, r = ov a1 l1 a2 l2 := ⟨_, rfl⟩
  have CO (W : World) := Lib.hid (hr0 ▸ overlap_calls K1 T1 x1 y1 K2 T2 x2 y2 a1 l1 a2 l2 W : Calls Try.prog 17 #[.agg #[K1, T1, .string a1, .string l1, x1, y1], .agg #[K2, T2, .string a2, .string l2, x2, y2]] W fun e w' => e = .returned (.bool r0) ∧ Below W.heap.size W w')
  have CO2 (W : World) := Lib.hid (hr0 ▸ ov_comm a1 l1 a2 l2 ▸ overlap_calls K2 T2 x2 y2 K1 T1 x1 y1 a2 l2 a1 l1 W : Calls Try.prog 17 #[.agg #[K2, T2, .string a2, .string l2, x2, y2], .agg #[K1, T1, .string a1, .string l1, x1, y1]] W fun e w' => e = .returned (.bool r0) ∧ Below W.heap.size W w')
  have CF (W : World) := Lib.hid (hr0 ▸ ref_calls K1 T1 x1 y1 K2 T2 x2 y2 a1 l1 a2 l2 W : Calls Try.prog 18 #[.agg #[K1, T1, .string a1, .string l1, x1, y1], .agg #[K2, T2, .string a2, .string l2, x2, y2]] W fun e w' => e = .returned (.bool r0) ∧ Below W.heap.size W w')
  clear hr0
  have KX : Hid (∀ W, Below w1.heap.size w1 W → W.heap[w.heap.size]? = some (.cells #[K1, T1, .string a1, .string l1, x1, y1] 45 (0, 0))) := Lib.hid fun W hW => (hW.block _ (lt_of_heap hx)).trans hx
  have KY : Hid (∀ W, Below w1.heap.size w1 W → W.heap[w.heap.size + 1]? = some (.cells #[K2, T2, .string a2, .string l2, x2, y2] 45 (0, 0))) := Lib.hid fun W hW => (hW.block _ (lt_of_heap hy)).trans hy
  have HB1 := Lib.hid hb1
  have HW1 := Lib.hid hw1
  clear hb1 hx hy hw1
  go_enter Try.func5, Try.ntmps5
  go_upto_region 1 with fail
  refine wp_letter (fun W => w1 = W) HW1.out ?_
  rintro _ rfl
  obtain ⟨a0, a1', a2', a3, a4, a5⟩ := six_cells (KX.out w1 (Below.refl _ _))
  obtain ⟨b0, b1, b2, b3, b4, b5⟩ := six_cells (KY.out w1 (Below.refl _ _))
  clear HW1
  have CG := Lib.hid (great_two (heap_alloc_new w1 (.cells #[K1, T1, .string a1, .string l1, x1, y1, K2, T2, .string a2, .string l2, x2, y2] 45)))
  go_upto_region 2 with (go_at_call 7; (with_reducible refine CG.out.mono ?_); rintro e w2 ⟨⟨r, rfl⟩, hw2⟩; have H2 : Hid (Below w1.heap.size w1 w2) := Lib.hid (hw2 ▸ (Below.refl _ _).alloc (Nat.le_refl _) _); obtain ⟨c0, c1, c2, c3, c4, c5⟩ := six_cells (KX.out w2 H2.out); obtain ⟨d0, d1, d2, d3, d4, d5⟩ := six_cells (KY.out w2 H2.out); clear hw2 a0 a1' a2' a3 a4 a5 b0 b1 b2 b3 b4 b5 CG; cases r)
  · go_upto_region 4 with (go_at_call 17; (with_reducible refine (CO _).out.mono ?_); rintro e w3 ⟨rfl, hb3⟩; have H3 := Lib.hid (below_mono H2.out hb3 (Nat.le_refl _)); obtain ⟨p0, p1, p2, p3, p4, p5⟩ := six_cells (KX.out w3 H3.out); obtain ⟨q0, q1, q2, q3, q4, q5⟩ := six_cells (KY.out w3 H3.out); clear hb3 c0 c1 c2 c3 c4 c5 d0 d1 d2 d3 d4 d5)
    cases r0 <;> (
      go_wp2_with (first | (go_at_call 18; (with_reducible refine (CF _).out.mono ?_); rintro e w4 ⟨rfl, hb4⟩; have H4 := Lib.hid (below_mono H3.out hb4 (Nat.le_refl _)); obtain ⟨r0, r1, r2, r3, r4, r5⟩ := six_cells (KX.out w4 H4.out); obtain ⟨s0, s1, s2, s3, s4, s5⟩ := six_cells (KY.out w4 H4.out); clear hb4 p0 p1 p2 p3 p4 p5 q0 q1 q2 q3 q4 q5) | (go_at_call 17; (with_reducible refine (CO2 _).out.mono ?_); rintro e w5 ⟨rfl, hb5⟩; have H5 := Lib.hid (below_mono H4.out hb5 (Nat.le_refl _)); clear hb5 r0 r1 r2 r3 r4 r5 s0 s1 s2 s3 s4 s5) | (go_at_call 8; (with_reducible refine (awake_any _).mono ?_); rintro e w6 ⟨rfl, hb6⟩; have H6 := Lib.hid (below_mono H5.out hb6 (Nat.le_refl _)); clear hb6))
      go_ret
      exact ⟨rfl, below_mono HB1.out H6.out (Nat.le_refl _)⟩)
  · go_wp2_with (go_at_call 8; (with_reducible refine (awake_any _).mono ?_); rintro e w3 ⟨rfl, hb3⟩; have H3 := Lib.hid (below_mono H2.out hb3 (Nat.le_refl _)))
    go_ret
    exact ⟨rfl, below_mono HB1.out H3.out (Nat.le_refl _)⟩
end Go.Proofs.Ytchflkibbdfeaaa
