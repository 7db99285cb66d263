/- Layer 18: the document's example made simple. Conditions: those written at each theorem. -/
import Derived.Test.YtepoihokbcoidaaTmI
namespace Go.Proofs.Ytepoihokbcoidaa
open Go.RowKit Go.PlainAid
set_option linter.unusedVariables false
set_option linter.unusedSimpArgs false
/-- A box and a zero term behind it. -/
theorem box_zero (x0 x1 x2 x3 : Value) (w : World) : ∀ W, (w.alloc (.cells #[x0, x1, x2, x3] 33)).alloc (.cells #[.int .i64 0, .string ⟨#[]⟩, .slice none 0 0, .slice none 0 0] 33) = W → W.heap[w.heap.size]? = some (.cells #[x0, x1, x2, x3] 33 (0, 0)) ∧ W.heap[w.heap.size + 1]? = some (.cells #[.int .i64 0, .string ⟨#[]⟩, .slice none 0 0, .slice none 0 0] 33 (0, 0)) ∧ Below w.heap.size w W := by
  rintro W rfl
  have h1 : (w.alloc (.cells #[x0, x1, x2, x3] 33)).heap.size = w.heap.size + 1 := by simp
  refine ⟨?_, ?_, ((Below.refl w.heap.size w).alloc (Nat.le_refl _) _).alloc (by omega) _⟩
  · exact (((Below.refl _ _).alloc (Nat.le_refl _) _).block w.heap.size (by omega)).trans (heap_alloc_new w _)
  · rw [← h1]; exact heap_alloc_new _ _
set_option maxRecDepth 100000 in
set_option maxHeartbeats 4000000 in
theorem simple_one (s : ByteArray) (w : World) : Calls Try.prog 24 #[oneV s] w fun e w' => e = .returned (oneV s) ∧ Below w.heap.size w w' := by
  have GA := Lib.hid (box_zero (.int .i64 2) (.string s) (.slice none 0 0) (.slice none 0 0) w)
  obtain ⟨z, hz⟩ : ∃ z, z = w.heap.size := ⟨_, rfl⟩
  obtain ⟨y, hy⟩ : ∃ y, y = w.heap.size + 1 := ⟨_, rfl⟩
  go_enter Try.func24, Try.ntmps24
  go_upto_region 2 with fail
  obtain ⟨W, hW⟩ : ∃ x, (w.alloc (.cells #[.int .i64 2, .string s, .slice none 0 0, .slice none 0 0] 33)).alloc (.cells #[.int .i64 0, .string ⟨#[]⟩, .slice none 0 0, .slice none 0 0] 33) = x := ⟨_, rfl⟩
  obtain ⟨b1, b2, g1⟩ := GA.out W hW
  have HG := Lib.hid g1
  rw [← hz] at b1
  rw [← hy] at b2
  rw [hW, ← hz, show z + 1 = y from by omega]
  have HB1 := Lib.hid b1
  have HB2 := Lib.hid b2
  have HZY := Lib.hid (show y ≠ z ∧ w.heap.size ≤ z ∧ w.heap.size ≤ y by omega)
  have c3 : W.cell? ⟨z, 3, none⟩ = some (.slice none 0 0) := cell_blk b1 3
  have p3 : W.frozen? ⟨z, 3, none⟩ = false := free_blk b1 3
  clear hW b1 b2 g1 GA hz hy
  go_upto_region 3 with fail
  go_loopw [9, 3] (fun v l wr => v = .int .i64 0 ∧ l = .slice none 0 0 ∧ W = wr) (fun _ _ _ => 0)
  case atStart => exact ⟨rfl, rfl, rfl⟩
  case round =>
    obtain ⟨rfl, rfl, rfl⟩ := hrel
    go_upto_region 8 with fail
    clear c3 p3
    refine wp_letter (fun X => X.heap[z]? = some (.cells #[.int .i64 2, .string s, .slice none 0 0, .slice none 0 0] 33 (0, 0)) ∧ X.heap[y]? = some (.cells #[.int .i64 0, .string ⟨#[]⟩, .slice none 0 0, .slice none 0 0] 33 (0, 0)) ∧ Below w.heap.size w X) ⟨heap_set_at (i := 3) _ HB1.out, (Below.heap_setCell _ _ _ _ HZY.out.1).trans HB2.out, HG.out.setCell (p := ⟨z, 3, none⟩) HZY.out.2.1 _⟩ ?_
    rintro X ⟨b1, b2, g1⟩
    have c0 : X.cell? ⟨z, 0, none⟩ = some (.int .i64 2) := cell_blk b1 0
    have c1 : X.cell? ⟨z, 1, none⟩ = some (.string s) := cell_blk b1 1
    have c2 : X.cell? ⟨z, 2, none⟩ = some (.slice none 0 0) := cell_blk b1 2
    have c3 : X.cell? ⟨z, 3, none⟩ = some (.slice none 0 0) := cell_blk b1 3
    have d0 : X.cell? ⟨y, 0, none⟩ = some (.int .i64 0) := cell_blk b2 0
    have d1 : X.cell? ⟨y, 1, none⟩ = some (.string ⟨#[]⟩) := cell_blk b2 1
    have d2 : X.cell? ⟨y, 2, none⟩ = some (.slice none 0 0) := cell_blk b2 2
    have d3 : X.cell? ⟨y, 3, none⟩ = some (.slice none 0 0) := cell_blk b2 3
    have p0 : X.frozen? ⟨y, 0, none⟩ = false := free_blk b2 0
    have p1 : X.frozen? ⟨y, 1, none⟩ = false := free_blk b2 1
    have p2 : X.frozen? ⟨y, 2, none⟩ = false := free_blk b2 2
    have p3 : X.frozen? ⟨y, 3, none⟩ = false := free_blk b2 3
    have HX := Lib.hid g1
    have HXL := Lib.hid (lt_of_heap b2)
    clear b1 b2 g1
    go_wp2_with fail
    exact bodyPost_ret (v := oneV s) (by simp [results, Try.results24, go_sem, d0, d1, d2, d3, p0, p1, p2, p3, HXL.out]) rfl ⟨rfl, (((HX.out.setCell (p := ⟨y, 0, none⟩) HZY.out.2.2 _).setCell (p := ⟨y, 1, none⟩) HZY.out.2.2 _).setCell (p := ⟨y, 2, none⟩) HZY.out.2.2 _).setCell (p := ⟨y, 3, none⟩) HZY.out.2.2 _⟩
end Go.Proofs.Ytepoihokbcoidaa
