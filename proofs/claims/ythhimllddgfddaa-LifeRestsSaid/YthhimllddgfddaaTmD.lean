/- Layer 18: whether an observable's expression is right. Conditions: those written at each theorem. -/
import Derived.Test.YthhimllddgfddaaTmC
namespace Go.Proofs.Ythhimllddgfddaa
open Go.RowKit Go.PlainAid
set_option linter.unusedVariables false
set_option linter.unusedSimpArgs false
set_option maxRecDepth 100000 in
set_option maxHeartbeats 2000000 in
theorem fits_yes (n d : Nat) (hn : n ≤ 200) (hd : d ≤ 16) (w : World) : Calls Try.prog 26 #[.int .i64 n, .int .i64 d] w fun e w' => e = .returned (.bool true) ∧ w = w' := by
  have e1 : (n : Int) ≤ 200 := by omega
  have e2 : (d : Int) ≤ 16 := by omega
  go_enter Try.func26, Try.ntmps26
  go_wp2_with fail
  go_ret
  exact ⟨rfl, rfl⟩
set_option maxRecDepth 100000 in
set_option maxHeartbeats 4000000 in
theorem builtExpr_see (s : ByteArray) (hs : s.size ≤ maxLen) (w : World) : Calls Try.prog 45 #[seeV s] w fun e w' => e = .returned (.bool (fre s)) ∧ Below w.heap.size w w' := by
  obtain ⟨z, hz⟩ : ∃ z, z = w.heap.size := ⟨_, rfl⟩
  have GA : Hid (∀ W, w.alloc (.cells #[.int .i64 3, .int .i64 0, .string s, .slice none 0 0] 53) = W → W.heap[z]? = some (.cells #[.int .i64 3, .int .i64 0, .string s, .slice none 0 0] 53 (0, 0)) ∧ Below w.heap.size w W) := Lib.hid (by
    rintro W rfl
    exact ⟨by rw [hz]; exact heap_alloc_new w _, (Below.refl w.heap.size w).alloc (Nat.le_refl _) _⟩)
  have CN := Lib.hid (tnamed_any s hs)
  obtain ⟨b, hb⟩ : ∃ b, b = fre s := ⟨_, rfl⟩
  rw [← hb] at CN ⊢
  clear hb hs
  go_enter Try.func45, Try.ntmps45
  go_upto_region 1 with fail
  obtain ⟨W, hW⟩ : ∃ x, w.alloc (.cells #[.int .i64 3, .int .i64 0, .string s, .slice none 0 0] 53) = x := ⟨_, rfl⟩
  rw [hW, ← hz]
  obtain ⟨b1, g1⟩ := GA.out W hW
  have HG := Lib.hid g1
  have c0 : W.cell? ⟨z, 0, none⟩ = some (.int .i64 3) := cell_blk b1 0
  have c1 : W.cell? ⟨z, 1, none⟩ = some (.int .i64 0) := cell_blk b1 1
  have c2 : W.cell? ⟨z, 2, none⟩ = some (.string s) := cell_blk b1 2
  have c3 : W.cell? ⟨z, 3, none⟩ = some (.slice none 0 0) := cell_blk b1 3
  clear hW b1 g1 GA hz
  go_upto_region 2 with fail
  go_loopw [9] (fun v wr => v = .int .i64 0 ∧ W = wr) (fun v _ => 0)
  case atStart => exact ⟨rfl, rfl⟩
  case round =>
    obtain ⟨rfl, rfl⟩ := hrel
    cases b <;> (
      go_wp2_with (go_at_call 46; (with_reducible refine (CN.out _).mono ?_); rintro e w2 ⟨rfl, rfl⟩)
      go_ret
      exact ⟨rfl, HG.out⟩)
set_option maxRecDepth 100000 in
set_option maxHeartbeats 4000000 in
/-- RightExpr, of an observable. -/
theorem rightExpr_see (s : ByteArray) (hs : s.size ≤ maxLen) (w : World) : Calls Try.prog 41 #[seeV s] w fun e w' => e = .returned (.bool (fre s)) ∧ Below w.heap.size w w' := by
  obtain ⟨z, hz⟩ : ∃ z, z = w.heap.size := ⟨_, rfl⟩
  have GA : Hid (∀ W, w.alloc (.cells #[.int .i64 3, .int .i64 0, .string s, .slice none 0 0] 53) = W → W.heap[z]? = some (.cells #[.int .i64 3, .int .i64 0, .string s, .slice none 0 0] 53 (0, 0)) ∧ Below w.heap.size w W ∧ z < W.heap.size) := Lib.hid (by
    rintro W rfl
    exact ⟨by rw [hz]; exact heap_alloc_new w _, (Below.refl w.heap.size w).alloc (Nat.le_refl _) _, by rw [hz]; simp⟩)
  have CS := Lib.hid (sizeExpr_see s)
  have CB := Lib.hid (builtExpr_see s hs)
  have CF : Hid (∀ W, Calls Try.prog 26 #[.int .i64 1, .int .i64 1] W fun e w' => e = .returned (.bool true) ∧ W = w') := Lib.hid (fun W => fits_yes 1 1 (by omega) (by omega) W)
  clear hs
  go_enter Try.func41, Try.ntmps41
  go_upto_region 1 with fail
  obtain ⟨W, hW⟩ : ∃ x, w.alloc (.cells #[.int .i64 3, .int .i64 0, .string s, .slice none 0 0] 53) = x := ⟨_, rfl⟩
  rw [hW, ← hz]
  obtain ⟨b1, g1, l1⟩ := GA.out W hW
  have HG := Lib.hid g1
  have HBX := Lib.hid b1
  have HL := Lib.hid l1
  have c0 : W.cell? ⟨z, 0, none⟩ = some (.int .i64 3) := cell_blk b1 0
  have c1 : W.cell? ⟨z, 1, none⟩ = some (.int .i64 0) := cell_blk b1 1
  have c2 : W.cell? ⟨z, 2, none⟩ = some (.string s) := cell_blk b1 2
  have c3 : W.cell? ⟨z, 3, none⟩ = some (.slice none 0 0) := cell_blk b1 3
  clear hW b1 g1 l1 GA hz
  go_wp2_with (first | (go_at_call 55; (with_reducible refine (CS.out _).mono ?_); rintro e w2 ⟨rfl, hb⟩; have HB2 := Lib.hid hb; have b2 := (hb.block z HL.out).trans HBX.out; have d0 : w2.cell? ⟨z, 0, none⟩ = some (.int .i64 3) := cell_blk b2 0; have d1 : w2.cell? ⟨z, 1, none⟩ = some (.int .i64 0) := cell_blk b2 1; have d2 : w2.cell? ⟨z, 2, none⟩ = some (.string s) := cell_blk b2 2; have d3 : w2.cell? ⟨z, 3, none⟩ = some (.slice none 0 0) := cell_blk b2 3; clear hb b2 c0 c1 c2 c3) | (go_at_call 26; (with_reducible refine (CF.out _).mono ?_); rintro e w3 ⟨rfl, rfl⟩) | (go_at_call 45; (with_reducible refine (CB.out _).mono ?_); rintro e w4 ⟨rfl, hb⟩; have HB4 := Lib.hid hb; clear hb))
  go_ret
  exact ⟨rfl, below_mono (below_mono HG.out HB2.out (Nat.le_refl _)) HB4.out (Nat.le_refl _)⟩
end Go.Proofs.Ythhimllddgfddaa
