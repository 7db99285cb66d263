/- Layer 18: two terms of one unit are the same. Conditions: those written at each theorem. -/
import Derived.Test.YtepoihokbcoidaaTmH
namespace Go.Proofs.Ytepoihokbcoidaa
open Go.RowKit Go.PlainAid
set_option linter.unusedVariables false
set_option linter.unusedSimpArgs false
set_option maxRecDepth 100000 in
set_option maxHeartbeats 4000000 in
theorem eqE_nil (f : Value) (w : World) : Calls Try.prog 46 #[.slice none 0 0, .slice none 0 0, f] w fun e w' => e = .returned (.bool true) ∧ w = w' := by
  go_enter Try.func46, Try.ntmps46
  go_upto_region 4 with fail
  go_loopw [17] (fun v wr => v = .int .i64 0 ∧ w = wr) (fun v _ => 0)
  case atStart => exact ⟨rfl, rfl⟩
  case round =>
    obtain ⟨rfl, rfl⟩ := hrel
    go_wp2_with fail
    go_ret
    exact ⟨rfl, rfl⟩
set_option maxRecDepth 100000 in
set_option maxHeartbeats 4000000 in
theorem eqT_nil (f : Value) (w : World) : Calls Try.prog 48 #[.slice none 0 0, .slice none 0 0, f] w fun e w' => e = .returned (.bool true) ∧ w = w' := by
  go_enter Try.func48, Try.ntmps48
  go_upto_region 4 with fail
  go_loopw [17] (fun v wr => v = .int .i64 0 ∧ w = wr) (fun v _ => 0)
  case atStart => exact ⟨rfl, rfl⟩
  case round =>
    obtain ⟨rfl, rfl⟩ := hrel
    go_wp2_with fail
    go_ret
    exact ⟨rfl, rfl⟩
/-- Two boxes of one unit, made one after the other. -/
theorem two_boxes (s : ByteArray) (w : World) : ∀ W, (w.alloc (.cells #[.int .i64 2, .string s, .slice none 0 0, .slice none 0 0] 33)).alloc (.cells #[.int .i64 2, .string s, .slice none 0 0, .slice none 0 0] 33) = W → W.heap[w.heap.size]? = some (.cells #[.int .i64 2, .string s, .slice none 0 0, .slice none 0 0] 33 (0, 0)) ∧ W.heap[w.heap.size + 1]? = some (.cells #[.int .i64 2, .string s, .slice none 0 0, .slice none 0 0] 33 (0, 0)) ∧ Below w.heap.size w W := by
  rintro W rfl
  have h1 : (w.alloc (.cells #[.int .i64 2, .string s, .slice none 0 0, .slice none 0 0] 33)).heap.size = w.heap.size + 1 := by simp
  refine ⟨?_, ?_, ((Below.refl w.heap.size w).alloc (Nat.le_refl _) _).alloc (by omega) _⟩
  · exact (((Below.refl _ _).alloc (Nat.le_refl _) _).block w.heap.size (by omega)).trans (heap_alloc_new w _)
  · rw [← h1]; exact heap_alloc_new _ _
set_option maxRecDepth 100000 in
set_option maxHeartbeats 4000000 in
theorem same_one (s : ByteArray) (w : World) : Calls Try.prog 33 #[oneV s, oneV s] w fun e w' => e = .returned (.bool true) ∧ Below w.heap.size w w' := by
  have GA := Lib.hid (two_boxes s w)
  have CE := Lib.hid eqE_nil
  have CT := Lib.hid eqT_nil
  obtain ⟨z, hz⟩ : ∃ z, z = w.heap.size := ⟨_, rfl⟩
  obtain ⟨y, hy⟩ : ∃ y, y = w.heap.size + 1 := ⟨_, rfl⟩
  go_enter Try.func33, Try.ntmps33
  go_upto_region 1 with fail
  obtain ⟨W, hW⟩ : ∃ x, (w.alloc (.cells #[.int .i64 2, .string s, .slice none 0 0, .slice none 0 0] 33)).alloc (.cells #[.int .i64 2, .string s, .slice none 0 0, .slice none 0 0] 33) = x := ⟨_, rfl⟩
  obtain ⟨b1, b2, g1⟩ := GA.out W hW
  have HG := Lib.hid g1
  rw [← hz] at b1
  rw [← hy] at b2
  rw [hW, ← hz, show z + 1 = y from by omega]
  have c0 : W.cell? ⟨z, 0, none⟩ = some (.int .i64 2) := cell_blk b1 0
  have c1 : W.cell? ⟨z, 1, none⟩ = some (.string s) := cell_blk b1 1
  have c2 : W.cell? ⟨z, 2, none⟩ = some (.slice none 0 0) := cell_blk b1 2
  have c3 : W.cell? ⟨z, 3, none⟩ = some (.slice none 0 0) := cell_blk b1 3
  have d0 : W.cell? ⟨y, 0, none⟩ = some (.int .i64 2) := cell_blk b2 0
  have d1 : W.cell? ⟨y, 1, none⟩ = some (.string s) := cell_blk b2 1
  have d2 : W.cell? ⟨y, 2, none⟩ = some (.slice none 0 0) := cell_blk b2 2
  have d3 : W.cell? ⟨y, 3, none⟩ = some (.slice none 0 0) := cell_blk b2 3
  clear hW b1 b2 g1 GA hz hy
  go_wp2_with (first | (go_at_call 46; (with_reducible refine (CE.out _ _).mono ?_); rintro e w3 ⟨rfl, rfl⟩) | (go_at_call 48; (with_reducible refine (CT.out _ _).mono ?_); rintro e w4 ⟨rfl, rfl⟩))
  go_ret
  exact ⟨by simp, HG.out⟩
set_option maxRecDepth 100000 in
set_option maxHeartbeats 4000000 in
theorem tsame_one (s : ByteArray) (w : World) : Calls Try.prog 17 #[oneV s, oneV s] w fun e w' => e = .returned (.bool true) ∧ Below w.heap.size w w' := by
  have GA := Lib.hid (two_boxes s w)
  have CS := Lib.hid (size_one s)
  have CE := Lib.hid (same_one s)
  obtain ⟨z, hz⟩ : ∃ z, z = w.heap.size := ⟨_, rfl⟩
  obtain ⟨y, hy⟩ : ∃ y, y = w.heap.size + 1 := ⟨_, rfl⟩
  go_enter Try.func17, Try.ntmps17
  go_upto_region 1 with fail
  obtain ⟨W, hW⟩ : ∃ x, (w.alloc (.cells #[.int .i64 2, .string s, .slice none 0 0, .slice none 0 0] 33)).alloc (.cells #[.int .i64 2, .string s, .slice none 0 0, .slice none 0 0] 33) = x := ⟨_, rfl⟩
  obtain ⟨b1, b2, g1⟩ := GA.out W hW
  have HG := Lib.hid g1
  rw [← hz] at b1
  rw [← hy] at b2
  rw [hW, ← hz, show z + 1 = y from by omega]
  have HB1 := Lib.hid b1
  have HB2 := Lib.hid b2
  have c0 : W.cell? ⟨z, 0, none⟩ = some (.int .i64 2) := cell_blk b1 0
  have c1 : W.cell? ⟨z, 1, none⟩ = some (.string s) := cell_blk b1 1
  have c2 : W.cell? ⟨z, 2, none⟩ = some (.slice none 0 0) := cell_blk b1 2
  have c3 : W.cell? ⟨z, 3, none⟩ = some (.slice none 0 0) := cell_blk b1 3
  clear hW b1 b2 g1 GA hz hy
  go_upto_region 2 with (go_at_call 14; (with_reducible refine (CS.out _).mono ?_); rintro e w2 ⟨rfl, hb⟩; have HC := Lib.hid hb; clear hb)
  have b1 := (HC.out.block z (lt_of_heap HB1.out)).trans HB1.out
  have b2 := (HC.out.block y (lt_of_heap HB2.out)).trans HB2.out
  clear c0 c1 c2 c3
  have c0 : w2.cell? ⟨z, 0, none⟩ = some (.int .i64 2) := cell_blk b1 0
  have c1 : w2.cell? ⟨z, 1, none⟩ = some (.string s) := cell_blk b1 1
  have c2 : w2.cell? ⟨z, 2, none⟩ = some (.slice none 0 0) := cell_blk b1 2
  have c3 : w2.cell? ⟨z, 3, none⟩ = some (.slice none 0 0) := cell_blk b1 3
  have d0 : w2.cell? ⟨y, 0, none⟩ = some (.int .i64 2) := cell_blk b2 0
  have d1 : w2.cell? ⟨y, 1, none⟩ = some (.string s) := cell_blk b2 1
  have d2 : w2.cell? ⟨y, 2, none⟩ = some (.slice none 0 0) := cell_blk b2 2
  have d3 : w2.cell? ⟨y, 3, none⟩ = some (.slice none 0 0) := cell_blk b2 3
  clear b1 b2
  go_wp2_with (go_at_call 33; (with_reducible refine (CE.out _).mono ?_); rintro e w3 ⟨rfl, hb⟩; have HD := Lib.hid hb; clear hb)
  go_ret
  exact ⟨rfl, below_mono (below_mono HG.out HC.out (Nat.le_refl _)) HD.out (Nat.le_refl _)⟩
end Go.Proofs.Ytepoihokbcoidaa
