/- Layer 18: a term of one unit measured; whether it is right. Conditions: those written at each theorem. -/
import Derived.Test.YthhimllddgfddaaTmD
namespace Go.Proofs.Ythhimllddgfddaa
open Go.RowKit Go.PlainAid
set_option linter.unusedVariables false
set_option linter.unusedSimpArgs false
/-- A term of one unit. -/
abbrev oneV (s : ByteArray) : Value := .agg #[.int .i64 2, .string s, .slice none 0 0, .slice none 0 0]
set_option maxRecDepth 100000 in
set_option maxHeartbeats 4000000 in
theorem mterm_leaf (s : ByteArray) (q n d dp : Nat) (hn : n < 900) (hd : d < 900) (hp : dp < 900) (w : World) (h : MAt q n d w) : Calls Try.prog 19 #[.pointer (some ⟨q, 0, none⟩), oneV s, .int .i64 dp] w fun e w' => e = .returned (.bool true) ∧ MAt q (n + 1) (max d dp) w' ∧ w.grownBy w' (some q) := by
  have hq := lt_of_heap h
  obtain ⟨z, hz⟩ : ∃ z, z = w.heap.size := ⟨_, rfl⟩
  have hzq : z ≠ q := by omega
  have C1 := Lib.hid (fun W hW hb => enter_box (q := q) (n := n) (d := d) (dp := dp) (z := z) (cs := #[.int .i64 2, .string s, .slice none 0 0, .slice none 0 0]) (T := 32) hn hd hp W hW hb hzq)
  have GA : Hid (∀ W, w.alloc (.cells #[.int .i64 2, .string s, .slice none 0 0, .slice none 0 0] 32) = W → MAt q n d W ∧ W.heap[z]? = some (.cells #[.int .i64 2, .string s, .slice none 0 0, .slice none 0 0] 32 (0, 0)) ∧ w.grownBy W (some q)) := Lib.hid (by
    rintro W rfl
    refine ⟨?_, ?_, alloc_only _ _ _⟩
    · exact (((Below.refl w.heap.size w).alloc (Nat.le_refl _) _).block q hq).trans h
    · rw [hz]; exact heap_alloc_new w _)
  clear h hq hn hd hp hzq
  go_enter Try.func19, Try.ntmps19
  go_upto_region 1 with fail
  obtain ⟨W, hW⟩ : ∃ x, w.alloc (.cells #[.int .i64 2, .string s, .slice none 0 0, .slice none 0 0] 32) = x := ⟨_, rfl⟩
  rw [hW, ← hz]
  obtain ⟨m1, b1, g1⟩ := GA.out W hW
  have HG := Lib.hid g1
  have HM := Lib.hid (And.intro m1 b1)
  clear hW m1 b1 g1 GA hz
  go_upto_region 3 with (go_at_call 33; (with_reducible refine (C1.out _ HM.out.1 HM.out.2).mono ?_); rintro e w2 ⟨rfl, h1, h2, h3⟩; have HM2 := Lib.hid h1; have HG2 := Lib.hid h2; have HB2 := Lib.hid h3; clear h1 h2 h3)
  have c2 : w2.cell? ⟨z, 2, none⟩ = some (.slice none 0 0) := cell_blk HB2.out 2
  have c3 : w2.cell? ⟨z, 3, none⟩ = some (.slice none 0 0) := cell_blk HB2.out 3
  go_upto_region 4 with fail
  go_loopw [18] (fun v wr => v = .int .i64 0 ∧ w2 = wr) (fun v _ => 0)
  case atStart => exact ⟨rfl, rfl⟩
  case round =>
    obtain ⟨rfl, rfl⟩ := hrel
    go_upto_region 10 with fail
    go_loopw [32] (fun v wr => v = .int .i64 0 ∧ w2 = wr) (fun v _ => 0)
    case atStart => exact ⟨rfl, rfl⟩
    case round =>
      obtain ⟨rfl, rfl⟩ := hrel
      go_wp2_with fail
      go_ret
      exact ⟨rfl, HM2.out, only_trans HG.out HG2.out⟩
set_option maxRecDepth 100000 in
set_option maxHeartbeats 4000000 in
theorem size_one (s : ByteArray) (w : World) : Calls Try.prog 8 #[oneV s] w fun e w' => e = .returned (.tuple #[.int .i64 1, .int .i64 1]) ∧ Below w.heap.size w w' := by
  obtain ⟨z, hz⟩ : ∃ z, z = w.heap.size := ⟨_, rfl⟩
  obtain ⟨q, hq⟩ : ∃ q, q = w.heap.size + 1 := ⟨_, rfl⟩
  have GA : Hid (∀ W, (w.alloc (.cells #[.int .i64 2, .string s, .slice none 0 0, .slice none 0 0] 32)).alloc (.cells #[.int .i64 0, .int .i64 0] 62) = W → MAt q 0 0 W ∧ W.heap[z]? = some (.cells #[.int .i64 2, .string s, .slice none 0 0, .slice none 0 0] 32 (0, 0)) ∧ Below w.heap.size w W ∧ w.heap.size + 2 = W.heap.size) := Lib.hid (by
    rintro W rfl
    have h1 : (w.alloc (.cells #[.int .i64 2, .string s, .slice none 0 0, .slice none 0 0] 32)).heap.size = w.heap.size + 1 := by simp
    refine ⟨?_, ?_, ((Below.refl w.heap.size w).alloc (Nat.le_refl _) _).alloc (by omega) _, by simp⟩
    · rw [hq, ← h1]; exact heap_alloc_new _ _
    · rw [hz]
      exact (((Below.refl _ _).alloc (Nat.le_refl _) _).block w.heap.size (by omega)).trans (heap_alloc_new w _))
  have CM : Hid (∀ W, MAt q 0 0 W → Calls Try.prog 19 #[.pointer (some ⟨q, 0, none⟩), oneV s, .int .i64 1] W fun e w' => e = .returned (.bool true) ∧ MAt q 1 1 w' ∧ W.grownBy w' (some q)) := Lib.hid fun W hW => mterm_leaf s q 0 0 1 (by omega) (by omega) (by omega) W hW
  have HQ := Lib.hid hq
  go_enter Try.func8, Try.ntmps8
  go_upto_region 2 with fail
  obtain ⟨W, hW⟩ : ∃ x, (w.alloc (.cells #[.int .i64 2, .string s, .slice none 0 0, .slice none 0 0] 32)).alloc (.cells #[.int .i64 0, .int .i64 0] 62) = x := ⟨_, rfl⟩
  rw [hW, ← hz, show z + 1 = q from by omega]
  obtain ⟨m1, b1, g1, l1⟩ := GA.out W hW
  have HM := Lib.hid m1
  have HG := Lib.hid (And.intro g1 l1)
  have c0 : W.cell? ⟨z, 0, none⟩ = some (.int .i64 2) := cell_blk b1 0
  have c1 : W.cell? ⟨z, 1, none⟩ = some (.string s) := cell_blk b1 1
  have c2 : W.cell? ⟨z, 2, none⟩ = some (.slice none 0 0) := cell_blk b1 2
  have c3 : W.cell? ⟨z, 3, none⟩ = some (.slice none 0 0) := cell_blk b1 3
  clear hW m1 b1 g1 l1 GA hz hq
  go_upto_region 4 with (go_at_call 19; (with_reducible refine (CM.out _ HM.out).mono ?_); rintro e w2 ⟨rfl, h1, h2⟩; have HM2 := Lib.hid h1; have HG2 := Lib.hid h2; clear h1 h2)
  have d0 : w2.cell? ⟨q, 0, none⟩ = some (.int .i64 1) := cell_blk HM2.out 0
  have d1 : w2.cell? ⟨q, 1, none⟩ = some (.int .i64 1) := cell_blk HM2.out 1
  have HE := Lib.hid (HG.out.1.grown HG2.out (by have := HG.out.2; omega) (fun g hg => by cases hg; have := HQ.out; omega))
  clear c0 c1 c2 c3
  go_quiet (fail)
  go_wp2_with fail
  go_ret2
  exact ⟨rfl, below_drewN HE.out _⟩
set_option maxRecDepth 100000 in
set_option maxHeartbeats 4000000 in
theorem built_one (s : ByteArray) (hs : s.size ≤ maxLen) (w : World) : Calls Try.prog 27 #[oneV s] w fun e w' => e = .returned (.bool (fre s)) ∧ Below w.heap.size w w' := by
  obtain ⟨z, hz⟩ : ∃ z, z = w.heap.size := ⟨_, rfl⟩
  have GA : Hid (∀ W, w.alloc (.cells #[.int .i64 2, .string s, .slice none 0 0, .slice none 0 0] 32) = W → W.heap[z]? = some (.cells #[.int .i64 2, .string s, .slice none 0 0, .slice none 0 0] 32 (0, 0)) ∧ Below w.heap.size w W) := Lib.hid (by
    rintro W rfl
    exact ⟨by rw [hz]; exact heap_alloc_new w _, (Below.refl w.heap.size w).alloc (Nat.le_refl _) _⟩)
  have CN := Lib.hid (tnamed_any s hs)
  obtain ⟨b, hb⟩ : ∃ b, b = fre s := ⟨_, rfl⟩
  rw [← hb] at CN ⊢
  clear hb hs
  go_enter Try.func27, Try.ntmps27
  go_upto_region 1 with fail
  obtain ⟨W, hW⟩ : ∃ x, w.alloc (.cells #[.int .i64 2, .string s, .slice none 0 0, .slice none 0 0] 32) = x := ⟨_, rfl⟩
  rw [hW, ← hz]
  obtain ⟨b1, g1⟩ := GA.out W hW
  have HG := Lib.hid g1
  have c0 : W.cell? ⟨z, 0, none⟩ = some (.int .i64 2) := cell_blk b1 0
  have c1 : W.cell? ⟨z, 1, none⟩ = some (.string s) := cell_blk b1 1
  have c2 : W.cell? ⟨z, 2, none⟩ = some (.slice none 0 0) := cell_blk b1 2
  have c3 : W.cell? ⟨z, 3, none⟩ = some (.slice none 0 0) := cell_blk b1 3
  clear hW b1 g1 GA hz
  go_upto_region 2 with fail
  go_loopw [12] (fun v wr => v = .int .i64 0 ∧ W = wr) (fun v _ => 0)
  case atStart => exact ⟨rfl, rfl⟩
  case round =>
    obtain ⟨rfl, rfl⟩ := hrel
    go_upto_region 8 with fail
    go_loopw [23] (fun v wr => v = .int .i64 0 ∧ W = wr) (fun v _ => 0)
    case atStart => exact ⟨rfl, rfl⟩
    case round =>
      obtain ⟨rfl, rfl⟩ := hrel
      cases b <;> (
        go_wp2_with (go_at_call 46; (with_reducible refine (CN.out _).mono ?_); rintro e w2 ⟨rfl, rfl⟩)
        go_ret
        exact ⟨rfl, HG.out⟩)
set_option maxRecDepth 100000 in
set_option maxHeartbeats 4000000 in
/-- RightExpr, of an observable. -/
theorem right_one (s : ByteArray) (hs : s.size ≤ maxLen) (w : World) : Calls Try.prog 14 #[oneV s] w fun e w' => e = .returned (.bool (fre s)) ∧ Below w.heap.size w w' := by
  obtain ⟨z, hz⟩ : ∃ z, z = w.heap.size := ⟨_, rfl⟩
  have GA : Hid (∀ W, w.alloc (.cells #[.int .i64 2, .string s, .slice none 0 0, .slice none 0 0] 32) = W → W.heap[z]? = some (.cells #[.int .i64 2, .string s, .slice none 0 0, .slice none 0 0] 32 (0, 0)) ∧ Below w.heap.size w W ∧ z < W.heap.size) := Lib.hid (by
    rintro W rfl
    exact ⟨by rw [hz]; exact heap_alloc_new w _, (Below.refl w.heap.size w).alloc (Nat.le_refl _) _, by rw [hz]; simp⟩)
  have CS := Lib.hid (size_one s)
  have CB := Lib.hid (built_one s hs)
  have CF : Hid (∀ W, Calls Try.prog 26 #[.int .i64 1, .int .i64 1] W fun e w' => e = .returned (.bool true) ∧ W = w') := Lib.hid (fun W => fits_yes 1 1 (by omega) (by omega) W)
  clear hs
  go_enter Try.func14, Try.ntmps14
  go_upto_region 1 with fail
  obtain ⟨W, hW⟩ : ∃ x, w.alloc (.cells #[.int .i64 2, .string s, .slice none 0 0, .slice none 0 0] 32) = x := ⟨_, rfl⟩
  rw [hW, ← hz]
  obtain ⟨b1, g1, l1⟩ := GA.out W hW
  have HG := Lib.hid g1
  have HBX := Lib.hid b1
  have HL := Lib.hid l1
  have c0 : W.cell? ⟨z, 0, none⟩ = some (.int .i64 2) := cell_blk b1 0
  have c1 : W.cell? ⟨z, 1, none⟩ = some (.string s) := cell_blk b1 1
  have c2 : W.cell? ⟨z, 2, none⟩ = some (.slice none 0 0) := cell_blk b1 2
  have c3 : W.cell? ⟨z, 3, none⟩ = some (.slice none 0 0) := cell_blk b1 3
  clear hW b1 g1 l1 GA hz
  go_wp2_with (first | (go_at_call 8; (with_reducible refine (CS.out _).mono ?_); rintro e w2 ⟨rfl, hb⟩; have HB2 := Lib.hid hb; have b2 := (hb.block z HL.out).trans HBX.out; have d0 : w2.cell? ⟨z, 0, none⟩ = some (.int .i64 2) := cell_blk b2 0; have d1 : w2.cell? ⟨z, 1, none⟩ = some (.string s) := cell_blk b2 1; have d2 : w2.cell? ⟨z, 2, none⟩ = some (.slice none 0 0) := cell_blk b2 2; have d3 : w2.cell? ⟨z, 3, none⟩ = some (.slice none 0 0) := cell_blk b2 3; clear hb b2 c0 c1 c2 c3) | (go_at_call 26; (with_reducible refine (CF.out _).mono ?_); rintro e w3 ⟨rfl, rfl⟩) | (go_at_call 27; (with_reducible refine (CB.out _).mono ?_); rintro e w4 ⟨rfl, hb⟩; have HB4 := Lib.hid hb; clear hb))
  go_ret
  exact ⟨rfl, below_mono (below_mono HG.out HB2.out (Nat.le_refl _)) HB4.out (Nat.le_refl _)⟩
end Go.Proofs.Ythhimllddgfddaa
