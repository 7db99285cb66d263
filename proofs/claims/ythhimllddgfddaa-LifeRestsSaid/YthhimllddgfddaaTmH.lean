/- Layer 18: the document's example is right. Conditions: those written at each theorem. -/
import Derived.Test.YthhimllddgfddaaTmG
namespace Go.Proofs.Ythhimllddgfddaa
open Go.RowKit Go.PlainAid
set_option linter.unusedVariables false
set_option linter.unusedSimpArgs false
/-- A term that gives one that gives one unit: the blocks of what is within. -/
def TwoAt (s : ByteArray) (b c : Nat) (w : World) : Prop :=
  w.heap[b]? = some (.cells #[.int .i64 2, .string s, .slice none 0 0, .slice none 0 0] 32 (0, 0)) ∧ w.heap[c]? = some (.cells #[.int .i64 3, .string ⟨#[]⟩, .slice none 0 0, .slice (some ⟨b, 0, none⟩) 1 1] 32 (0, 0))
theorem TwoAt.lt {s : ByteArray} {b c : Nat} {w : World} (h : TwoAt s b c w) : b < w.heap.size ∧ c < w.heap.size := ⟨lt_of_heap h.1, lt_of_heap h.2⟩
theorem TwoAt.below {s : ByteArray} {b c : Nat} {w w' : World} (h : TwoAt s b c w) (k : Below w.heap.size w w') : TwoAt s b c w' := ⟨(k.block b h.lt.1).trans h.1, (k.block c h.lt.2).trans h.2⟩
theorem TwoAt.only {s : ByteArray} {b c q : Nat} {w w' : World} (h : TwoAt s b c w) (hb : b ≠ q) (hc : c ≠ q) (k : w.grownBy w' (some q)) : TwoAt s b c w' :=
  ⟨(k.block b h.lt.1 (by intro e; cases e; exact hb rfl)).trans h.1, (k.block c h.lt.2 (by intro e; cases e; exact hc rfl)).trans h.2⟩
theorem mterm_twice (s : ByteArray) (b c q : Nat) (hb : b ≠ q) (hc : c ≠ q) (n d dp : Nat) (w : World) (hn : n < 50) (hd : d < 50) (hp : dp < 50) (h : MAt q n d w) (hw : TwoAt s b c w) : Calls Try.prog 19 #[.pointer (some ⟨q, 0, none⟩), giveV c, .int .i64 dp] w fun e w' => e = .returned (.bool true) ∧ MAt q (n + 3) (max d (dp + 2)) w' ∧ w.grownBy w' (some q) := by
  have K1 : ∀ (n d dp : Nat) W, n < 100 → d < 100 → dp < 100 → MAt q n d W → TwoAt s b c W → Calls Try.prog 19 #[.pointer (some ⟨q, 0, none⟩), oneV s, .int .i64 dp] W fun e w' => e = .returned (.bool true) ∧ MAt q (n + 1) (max d (dp + 1 - 1)) w' ∧ W.grownBy w' (some q) := fun n d dp W h1 h2 h3 h4 _ => mterm_leaf s q n d dp (by omega) (by omega) (by omega) W h4
  have K2 : ∀ (n d dp : Nat) W, n < 80 → d < 80 → dp < 80 → MAt q n d W → TwoAt s b c W → Calls Try.prog 19 #[.pointer (some ⟨q, 0, none⟩), giveV b, .int .i64 dp] W fun e w' => e = .returned (.bool true) ∧ MAt q (n + 2) (max d (dp + 2 - 1)) w' ∧ W.grownBy w' (some q) := fun n d dp W h1 h2 h3 h4 h5 =>
    (mterm_give 100 (by omega) 2 s none 0 0 b q 1 (by omega) (TwoAt s b c) (fun W W' h k => h.only hb hc k) (fun W h => h.1) K1 n d dp W (by omega) (by omega) (by omega) h4 h5).mono fun e w' ⟨r1, r2, r3⟩ => ⟨r1, by rw [show max d (dp + 2 - 1) = max (max d dp) (dp + 1 + 1 - 1) by omega]; exact r2, r3⟩
  refine (mterm_give 80 (by omega) 3 ⟨#[]⟩ (some ⟨b, 0, none⟩) 1 1 c q 2 (by omega) (TwoAt s b c) (fun W W' h k => h.only hb hc k) (fun W h => h.2) (fun n d dp W h1 h2 h3 h4 h5 => K2 n d dp W h1 h2 h3 h4 h5) n d dp w (by omega) (by omega) (by omega) h hw).mono fun e w' ⟨r1, r2, r3⟩ => ⟨r1, by rw [show n + 3 = n + 1 + 2 by omega, show max d (dp + 2) = max (max d dp) (dp + 1 + 2 - 1) by omega]; exact r2, r3⟩
theorem built_twice (s : ByteArray) (hf : fre s = true) (b c : Nat) (hs : s.size ≤ maxLen) (w : World) (hw : TwoAt s b c w) : Calls Try.prog 27 #[giveV c] w fun e w' => e = .returned (.bool true) ∧ Below w.heap.size w w' :=
  built_give 3 ⟨#[]⟩ (some ⟨b, 0, none⟩) 1 1 c (TwoAt s b c) (fun _ _ h k => h.below k) (fun _ h => h.2)
    (fun W hW => built_give 2 s none 0 0 b (TwoAt s b c) (fun _ _ h k => h.below k) (fun _ h => h.1) (fun W hW => (built_one s hs W).mono fun e w' h => ⟨by rw [h.1, hf], h.2⟩) W hW) w hw
set_option maxRecDepth 100000 in
set_option maxHeartbeats 4000000 in
theorem size_twice (s : ByteArray) (b c : Nat) (w : World) (hT : TwoAt s b c w) : Calls Try.prog 8 #[giveV c] w fun e w' => e = .returned (.tuple #[.int .i64 3, .int .i64 3]) ∧ Below w.heap.size w w' := by
  obtain ⟨z, hz⟩ : ∃ z, z = w.heap.size := ⟨_, rfl⟩
  obtain ⟨q, hq⟩ : ∃ q, q = w.heap.size + 1 := ⟨_, rfl⟩
  have GA : Hid (∀ W, (w.alloc (.cells #[.int .i64 3, .string ⟨#[]⟩, .slice none 0 0, .slice (some ⟨c, 0, none⟩) 1 1] 32)).alloc (.cells #[.int .i64 0, .int .i64 0] 62) = W → MAt q 0 0 W ∧ W.heap[z]? = some (.cells #[.int .i64 3, .string ⟨#[]⟩, .slice none 0 0, .slice (some ⟨c, 0, none⟩) 1 1] 32 (0, 0)) ∧ Below w.heap.size w W ∧ w.heap.size + 2 = W.heap.size) := Lib.hid (by
    rintro W rfl
    have h1 : (w.alloc (.cells #[.int .i64 3, .string ⟨#[]⟩, .slice none 0 0, .slice (some ⟨c, 0, none⟩) 1 1] 32)).heap.size = w.heap.size + 1 := by simp
    refine ⟨?_, ?_, ((Below.refl w.heap.size w).alloc (Nat.le_refl _) _).alloc (by omega) _, by simp⟩
    · rw [hq, ← h1]; exact heap_alloc_new _ _
    · rw [hz]
      exact (((Below.refl _ _).alloc (Nat.le_refl _) _).block w.heap.size (by omega)).trans (heap_alloc_new w _))
  have CM : Hid (∀ W, MAt q 0 0 W → TwoAt s b c W → Calls Try.prog 19 #[.pointer (some ⟨q, 0, none⟩), giveV c, .int .i64 1] W fun e w' => e = .returned (.bool true) ∧ MAt q 3 3 w' ∧ W.grownBy w' (some q)) := Lib.hid fun W hW hT2 => mterm_twice s b c q (by have := hT.lt; omega) (by have := hT.lt; omega) 0 0 1 W (by omega) (by omega) (by omega) hW hT2
  have HT := Lib.hid hT
  clear hT
  have HQ := Lib.hid hq
  go_enter Try.func8, Try.ntmps8
  go_upto_region 2 with fail
  obtain ⟨W, hW⟩ : ∃ x, (w.alloc (.cells #[.int .i64 3, .string ⟨#[]⟩, .slice none 0 0, .slice (some ⟨c, 0, none⟩) 1 1] 32)).alloc (.cells #[.int .i64 0, .int .i64 0] 62) = x := ⟨_, rfl⟩
  rw [hW, ← hz, show z + 1 = q from by omega]
  obtain ⟨m1, b1, g1, l1⟩ := GA.out W hW
  have HM := Lib.hid (And.intro m1 (HT.out.below g1))
  have HG := Lib.hid (And.intro g1 l1)
  have c0 : W.cell? ⟨z, 0, none⟩ = some (.int .i64 3) := cell_blk b1 0
  have c1 : W.cell? ⟨z, 1, none⟩ = some (.string ⟨#[]⟩) := cell_blk b1 1
  have c2 : W.cell? ⟨z, 2, none⟩ = some (.slice none 0 0) := cell_blk b1 2
  have c3 : W.cell? ⟨z, 3, none⟩ = some (.slice (some ⟨c, 0, none⟩) 1 1) := cell_blk b1 3
  clear hW m1 b1 g1 l1 GA hz hq
  go_upto_region 4 with (go_at_call 19; (with_reducible refine (CM.out _ HM.out.1 HM.out.2).mono ?_); rintro e w2 ⟨rfl, h1, h2⟩; have HM2 := Lib.hid h1; have HG2 := Lib.hid h2; clear h1 h2)
  have d0 : w2.cell? ⟨q, 0, none⟩ = some (.int .i64 3) := cell_blk HM2.out 0
  have d1 : w2.cell? ⟨q, 1, none⟩ = some (.int .i64 3) := cell_blk HM2.out 1
  have HE := Lib.hid (HG.out.1.grown HG2.out (by have := HG.out.2; omega) (fun g hg => by cases hg; have := HQ.out; omega))
  clear c0 c1 c2 c3
  go_quiet (fail)
  go_wp2_with fail
  go_ret2
  exact ⟨rfl, below_drewN HE.out _⟩
set_option maxRecDepth 100000 in
set_option maxHeartbeats 4000000 in
theorem right_twice (s : ByteArray) (hf : fre s = true) (b c : Nat) (hs : s.size ≤ maxLen) (w : World) (hT : TwoAt s b c w) : Calls Try.prog 14 #[giveV c] w fun e w' => e = .returned (.bool true) ∧ Below w.heap.size w w' := by
  obtain ⟨z, hz⟩ : ∃ z, z = w.heap.size := ⟨_, rfl⟩
  have GA : Hid (∀ W, w.alloc (.cells #[.int .i64 3, .string ⟨#[]⟩, .slice none 0 0, .slice (some ⟨c, 0, none⟩) 1 1] 32) = W → W.heap[z]? = some (.cells #[.int .i64 3, .string ⟨#[]⟩, .slice none 0 0, .slice (some ⟨c, 0, none⟩) 1 1] 32 (0, 0)) ∧ Below w.heap.size w W ∧ z < W.heap.size) := Lib.hid (by
    rintro W rfl
    exact ⟨by rw [hz]; exact heap_alloc_new w _, (Below.refl w.heap.size w).alloc (Nat.le_refl _) _, by rw [hz]; simp⟩)
  have CS := Lib.hid (fun W => size_twice s b c W)
  have CB := Lib.hid (fun W => built_twice s hf b c hs W)
  have HT := Lib.hid hT
  clear hT hf
  have CF : Hid (∀ W, Calls Try.prog 26 #[.int .i64 3, .int .i64 3] W fun e w' => e = .returned (.bool true) ∧ W = w') := Lib.hid (fun W => fits_yes 3 3 (by omega) (by omega) W)
  clear hs
  go_enter Try.func14, Try.ntmps14
  go_upto_region 1 with fail
  obtain ⟨W, hW⟩ : ∃ x, w.alloc (.cells #[.int .i64 3, .string ⟨#[]⟩, .slice none 0 0, .slice (some ⟨c, 0, none⟩) 1 1] 32) = x := ⟨_, rfl⟩
  rw [hW, ← hz]
  obtain ⟨b1, g1, l1⟩ := GA.out W hW
  have HG := Lib.hid g1
  have HBX := Lib.hid b1
  have HT1 := Lib.hid (HT.out.below g1)
  have HL := Lib.hid l1
  have c0 : W.cell? ⟨z, 0, none⟩ = some (.int .i64 3) := cell_blk b1 0
  have c1 : W.cell? ⟨z, 1, none⟩ = some (.string ⟨#[]⟩) := cell_blk b1 1
  have c2 : W.cell? ⟨z, 2, none⟩ = some (.slice none 0 0) := cell_blk b1 2
  have c3 : W.cell? ⟨z, 3, none⟩ = some (.slice (some ⟨c, 0, none⟩) 1 1) := cell_blk b1 3
  clear hW b1 g1 l1 GA hz
  go_wp2_with (first | (go_at_call 8; (with_reducible refine (CS.out _ HT1.out).mono ?_); rintro e w2 ⟨rfl, hb⟩; have HB2 := Lib.hid hb; have HT2 := Lib.hid (HT1.out.below hb); have b2 := (hb.block z HL.out).trans HBX.out; have d0 : w2.cell? ⟨z, 0, none⟩ = some (.int .i64 3) := cell_blk b2 0; have d1 : w2.cell? ⟨z, 1, none⟩ = some (.string ⟨#[]⟩) := cell_blk b2 1; have d2 : w2.cell? ⟨z, 2, none⟩ = some (.slice none 0 0) := cell_blk b2 2; have d3 : w2.cell? ⟨z, 3, none⟩ = some (.slice (some ⟨c, 0, none⟩) 1 1) := cell_blk b2 3; clear hb b2 c0 c1 c2 c3) | (go_at_call 26; (with_reducible refine (CF.out _).mono ?_); rintro e w3 ⟨rfl, rfl⟩) | (go_at_call 27; (with_reducible refine (CB.out _ HT2.out).mono ?_); rintro e w4 ⟨rfl, hb⟩; have HB4 := Lib.hid hb; clear hb))
  go_ret
  exact ⟨rfl, below_mono (below_mono HG.out HB2.out (Nat.le_refl _)) HB4.out (Nat.le_refl _)⟩
end Go.Proofs.Ythhimllddgfddaa
