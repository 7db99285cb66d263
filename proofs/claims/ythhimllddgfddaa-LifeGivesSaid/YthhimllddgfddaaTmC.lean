/- Layer 18: a leaf's measure; whether it is right. Conditions: those written at each theorem. -/
import Derived.Test.YthhimllddgfddaaTmB
import Derived.BigQuiet
namespace Go.Proofs.Ythhimllddgfddaa
open Go.RowKit Go.PlainAid
set_option linter.unusedVariables false
set_option linter.unusedSimpArgs false
/-- An observable's expression. -/
abbrev seeV (s : ByteArray) : Value := .agg #[.int .i64 3, .int .i64 0, .string s, .slice none 0 0]
theorem alloc_only (b : Nat) (w : World) (o : Obj) : w.grownBy (w.alloc o) (some b) :=
  let k := (Below.refl w.heap.size w).alloc (Nat.le_refl _) o
  ⟨k.os, k.tape, k.output, k.size, fun i hi _ => k.block i hi⟩
theorem enter_box {q n d dp z : Nat} {cs : Array Value} {T : TypeId} (hn : n < 900) (hd : d < 900) (hp : dp < 900) (W : World) (hW : MAt q n d W) (hz : W.heap[z]? = some (.cells cs T (0, 0))) (hne : z ≠ q) : Calls Try.prog 33 #[.pointer (some ⟨q, 0, none⟩), .int .i64 dp] W fun e w' => e = .returned (.bool true) ∧ MAt q (n + 1) (max d dp) w' ∧ W.grownBy w' (some q) ∧ w'.heap[z]? = some (.cells cs T (0, 0)) :=
  (enter_any q n d dp (by omega) W hW).mono fun e w' ⟨h1, h2, h3⟩ => ⟨by rw [h1, show (decide (n + 1 < 1000) && decide (max d dp < 1000)) = true from by simp; omega], h2, h3, (h3.block z (lt_of_heap hz) (by intro e; cases e; exact hne rfl)).trans hz⟩
set_option maxRecDepth 100000 in
set_option maxHeartbeats 4000000 in
theorem mexpr_leaf (s : ByteArray) (q n d dp : Nat) (hn : n < 900) (hd : d < 900) (hp : dp < 900) (w : World) (h : MAt q n d w) : Calls Try.prog 34 #[.pointer (some ⟨q, 0, none⟩), seeV s, .int .i64 dp] w fun e w' => e = .returned (.bool true) ∧ MAt q (n + 1) (max d dp) w' ∧ w.grownBy w' (some q) := by
  have hq := lt_of_heap h
  obtain ⟨z, hz⟩ : ∃ z, z = w.heap.size := ⟨_, rfl⟩
  have hzq : z ≠ q := by omega
  have C1 := Lib.hid (fun W hW hb => enter_box (q := q) (n := n) (d := d) (dp := dp) (z := z) (cs := #[.int .i64 3, .int .i64 0, .string s, .slice none 0 0]) (T := 53) hn hd hp W hW hb hzq)
  have GA : Hid (∀ W, w.alloc (.cells #[.int .i64 3, .int .i64 0, .string s, .slice none 0 0] 53) = W → MAt q n d W ∧ W.heap[z]? = some (.cells #[.int .i64 3, .int .i64 0, .string s, .slice none 0 0] 53 (0, 0)) ∧ w.grownBy W (some q)) := Lib.hid (by
    rintro W rfl
    refine ⟨?_, ?_, alloc_only _ _ _⟩
    · exact (((Below.refl w.heap.size w).alloc (Nat.le_refl _) _).block q hq).trans h
    · rw [hz]; exact heap_alloc_new w _)
  clear h hq hn hd hp hzq
  go_enter Try.func34, Try.ntmps34
  go_upto_region 1 with fail
  obtain ⟨W, hW⟩ : ∃ x, w.alloc (.cells #[.int .i64 3, .int .i64 0, .string s, .slice none 0 0] 53) = x := ⟨_, rfl⟩
  rw [hW, ← hz]
  obtain ⟨m1, b1, g1⟩ := GA.out W hW
  have HG := Lib.hid g1
  have HM := Lib.hid (And.intro m1 b1)
  clear hW m1 b1 g1 GA hz
  go_upto_region 3 with (go_at_call 33; (with_reducible refine (C1.out _ HM.out.1 HM.out.2).mono ?_); rintro e w2 ⟨rfl, h1, h2, h3⟩; have HM2 := Lib.hid h1; have HG2 := Lib.hid h2; have HB2 := Lib.hid h3; clear h1 h2 h3)
  have c3 : w2.cell? ⟨z, 3, none⟩ = some (.slice none 0 0) := cell_blk HB2.out 3
  go_upto_region 4 with fail
  go_loopw [16] (fun v wr => v = .int .i64 0 ∧ w2 = wr) (fun v _ => 0)
  case atStart => exact ⟨rfl, rfl⟩
  case round =>
    obtain ⟨rfl, rfl⟩ := hrel
    go_wp2_with fail
    go_ret
    exact ⟨rfl, HM2.out, only_trans HG.out HG2.out⟩
set_option maxRecDepth 100000 in
set_option maxHeartbeats 4000000 in
theorem sizeExpr_see (s : ByteArray) (w : World) : Calls Try.prog 55 #[seeV s] w fun e w' => e = .returned (.tuple #[.int .i64 1, .int .i64 1]) ∧ Below w.heap.size w w' := by
  obtain ⟨z, hz⟩ : ∃ z, z = w.heap.size := ⟨_, rfl⟩
  obtain ⟨q, hq⟩ : ∃ q, q = w.heap.size + 1 := ⟨_, rfl⟩
  have GA : Hid (∀ W, (w.alloc (.cells #[.int .i64 3, .int .i64 0, .string s, .slice none 0 0] 53)).alloc (.cells #[.int .i64 0, .int .i64 0] 62) = W → MAt q 0 0 W ∧ W.heap[z]? = some (.cells #[.int .i64 3, .int .i64 0, .string s, .slice none 0 0] 53 (0, 0)) ∧ Below w.heap.size w W ∧ w.heap.size + 2 = W.heap.size) := Lib.hid (by
    rintro W rfl
    have h1 : (w.alloc (.cells #[.int .i64 3, .int .i64 0, .string s, .slice none 0 0] 53)).heap.size = w.heap.size + 1 := by simp
    refine ⟨?_, ?_, ((Below.refl w.heap.size w).alloc (Nat.le_refl _) _).alloc (by omega) _, by simp⟩
    · rw [hq, ← h1]; exact heap_alloc_new _ _
    · rw [hz]
      exact (((Below.refl _ _).alloc (Nat.le_refl _) _).block w.heap.size (by omega)).trans (heap_alloc_new w _))
  have CM : Hid (∀ W, MAt q 0 0 W → Calls Try.prog 34 #[.pointer (some ⟨q, 0, none⟩), seeV s, .int .i64 1] W fun e w' => e = .returned (.bool true) ∧ MAt q 1 1 w' ∧ W.grownBy w' (some q)) := Lib.hid fun W hW => mexpr_leaf s q 0 0 1 (by omega) (by omega) (by omega) W hW
  have HQ := Lib.hid hq
  go_enter Try.func55, Try.ntmps55
  go_upto_region 2 with fail
  obtain ⟨W, hW⟩ : ∃ x, (w.alloc (.cells #[.int .i64 3, .int .i64 0, .string s, .slice none 0 0] 53)).alloc (.cells #[.int .i64 0, .int .i64 0] 62) = x := ⟨_, rfl⟩
  rw [hW, ← hz, show z + 1 = q from by omega]
  obtain ⟨m1, b1, g1, l1⟩ := GA.out W hW
  have HM := Lib.hid m1
  have HG := Lib.hid (And.intro g1 l1)
  have c0 : W.cell? ⟨z, 0, none⟩ = some (.int .i64 3) := cell_blk b1 0
  have c1 : W.cell? ⟨z, 1, none⟩ = some (.int .i64 0) := cell_blk b1 1
  have c2 : W.cell? ⟨z, 2, none⟩ = some (.string s) := cell_blk b1 2
  have c3 : W.cell? ⟨z, 3, none⟩ = some (.slice none 0 0) := cell_blk b1 3
  clear hW m1 b1 g1 l1 GA hz hq
  go_upto_region 4 with (go_at_call 34; (with_reducible refine (CM.out _ HM.out).mono ?_); rintro e w2 ⟨rfl, h1, h2⟩; have HM2 := Lib.hid h1; have HG2 := Lib.hid h2; clear h1 h2)
  have d0 : w2.cell? ⟨q, 0, none⟩ = some (.int .i64 1) := cell_blk HM2.out 0
  have d1 : w2.cell? ⟨q, 1, none⟩ = some (.int .i64 1) := cell_blk HM2.out 1
  have HE := Lib.hid (HG.out.1.grown HG2.out (by have := HG.out.2; omega) (fun g hg => by cases hg; have := HQ.out; omega))
  clear c0 c1 c2 c3
  go_quiet (fail)
  go_wp2_with fail
  go_ret2
  exact ⟨rfl, below_drewN HE.out _⟩
end Go.Proofs.Ythhimllddgfddaa
