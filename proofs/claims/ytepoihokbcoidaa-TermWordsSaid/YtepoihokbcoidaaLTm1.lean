/- The law TermWords, walked. Conditions: those written at each theorem. -/
import Derived.Test.YtepoihokbcoidaaTmP
namespace Go.Proofs.Ytepoihokbcoidaa
open Go.RowKit Go.PlainAid
set_option linter.unusedVariables false
set_option linter.unusedSimpArgs false
/-- The boxes of the unit and of the observable. -/
structure WoAt (s : ByteArray) (w0 : World) (z y : Nat) (W : World) : Prop where
  one : W.heap[z]? = some (.cells #[.int .i64 2, .string s, .slice none 0 0, .slice none 0 0] 33 (0, 0))
  see : W.heap[y]? = some (.cells #[.int .i64 3, .int .i64 0, .string s, .slice none 0 0] 46 (0, 0))
  bel : Below w0.heap.size w0 W
theorem WoAt.drew {s : ByteArray} {w0 : World} {z y : Nat} {W : World} (h : WoAt s w0 z y W) : WoAt s w0 z y W.drew := ⟨h.one, h.see, ⟨h.bel.os, h.bel.tape, h.bel.output, h.bel.size, h.bel.block⟩⟩
theorem WoAt.next {s : ByteArray} {w0 : World} {z y : Nat} {W W' : World} (h : WoAt s w0 z y W) (k : Below W.heap.size W W') : WoAt s w0 z y W' := ⟨(k.block z (lt_of_heap h.one)).trans h.one, (k.block y (lt_of_heap h.see)).trans h.see, below_mono h.bel k (Nat.le_refl _)⟩
theorem WoAt.cells {s : ByteArray} {w0 : World} {z y : Nat} {W : World} (h : WoAt s w0 z y W) : (W.cell? ⟨z, 0, none⟩ = some (.int .i64 2) ∧ W.cell? ⟨z, 1, none⟩ = some (.string s) ∧ W.cell? ⟨z, 2, none⟩ = some (.slice none 0 0) ∧ W.cell? ⟨z, 3, none⟩ = some (.slice none 0 0)) ∧ W.cell? ⟨y, 0, none⟩ = some (.int .i64 3) ∧ W.cell? ⟨y, 1, none⟩ = some (.int .i64 0) ∧ W.cell? ⟨y, 2, none⟩ = some (.string s) ∧ W.cell? ⟨y, 3, none⟩ = some (.slice none 0 0) :=
  ⟨⟨cell_blk h.one 0, cell_blk h.one 1, cell_blk h.one 2, cell_blk h.one 3⟩, cell_blk h.see 0, cell_blk h.see 1, cell_blk h.see 2, cell_blk h.see 3⟩
set_option maxRecDepth 100000 in
set_option maxHeartbeats 4000000 in
theorem termWords_walk (s : ByteArray) (hs : s.size ≤ maxLen) (w : World) : Calls Try.prog 5 #[.string s] w fun e w' => e = .returned (.bool true) ∧ Below w.heap.size w w' := by
  have CA := Lib.hid awake_any
  have CR1 := Lib.hid (reserved_any s)
  have CR2 := Lib.hid (rreserved_any s)
  have CO := Lib.hid (right_one s hs)
  have CE := Lib.hid (rightExpr_see s hs)
  have CF := Lib.hid (free_any s hs)
  by_cases h3 : (300 : Int) < (s.size : Int)
  · go_enter Try.func5, Try.ntmps5
    go_wp2_with (go_at_call 7; (with_reducible refine (CA.out _).mono ?_); rintro e W1 ⟨rfl, hB⟩; have HB := Lib.hid hB; clear hB)
    go_ret
    exact ⟨rfl, HB.out⟩
  · have r0 : (w.alloc (.cells #[.int .i64 0, .string ⟨#[]⟩, .slice none 0 0, .slice none 0 0] 33)).cell? ⟨w.heap.size, 0, none⟩ = some (.int .i64 0) := World.cell?_alloc_at _ _ _ _ rfl
    have r1 : (w.alloc (.cells #[.int .i64 0, .string ⟨#[]⟩, .slice none 0 0, .slice none 0 0] 33)).cell? ⟨w.heap.size, 1, none⟩ = some (.string ⟨#[]⟩) := World.cell?_alloc_at _ _ _ _ rfl
    have r2 : (w.alloc (.cells #[.int .i64 0, .string ⟨#[]⟩, .slice none 0 0, .slice none 0 0] 33)).cell? ⟨w.heap.size, 2, none⟩ = some (.slice none 0 0) := World.cell?_alloc_at _ _ _ _ rfl
    have r3 : (w.alloc (.cells #[.int .i64 0, .string ⟨#[]⟩, .slice none 0 0, .slice none 0 0] 33)).cell? ⟨w.heap.size, 3, none⟩ = some (.slice none 0 0) := World.cell?_alloc_at _ _ _ _ rfl
    have q0 : (w.alloc (.cells #[.int .i64 0, .string ⟨#[]⟩, .slice none 0 0, .slice none 0 0] 33)).frozen? ⟨w.heap.size, 0, none⟩ = false := World.frozen?_alloc_at _ _ _ _ rfl
    have q1 : (w.alloc (.cells #[.int .i64 0, .string ⟨#[]⟩, .slice none 0 0, .slice none 0 0] 33)).frozen? ⟨w.heap.size, 1, none⟩ = false := World.frozen?_alloc_at _ _ _ _ rfl
    have q2 : (w.alloc (.cells #[.int .i64 0, .string ⟨#[]⟩, .slice none 0 0, .slice none 0 0] 33)).frozen? ⟨w.heap.size, 2, none⟩ = false := World.frozen?_alloc_at _ _ _ _ rfl
    have q3 : (w.alloc (.cells #[.int .i64 0, .string ⟨#[]⟩, .slice none 0 0, .slice none 0 0] 33)).frozen? ⟨w.heap.size, 3, none⟩ = false := World.frozen?_alloc_at _ _ _ _ rfl
    go_enter Try.func5, Try.ntmps5
    go_upto_region 4 with fail
    clear r0 r1 r2 r3 q0 q1 q2 q3
    obtain ⟨z, hz⟩ : ∃ z, z = w.heap.size := ⟨_, rfl⟩
    have GA : Hid (∀ W, w.alloc (.cells #[.int .i64 2, .string s, .slice none 0 0, .slice none 0 0] 33) = W → W.heap[z]? = some (.cells #[.int .i64 2, .string s, .slice none 0 0, .slice none 0 0] 33 (0, 0)) ∧ Below w.heap.size w W ∧ z < W.heap.size) := Lib.hid (by
      rintro W rfl
      exact ⟨by rw [hz]; exact heap_alloc_new w _, (Below.refl w.heap.size w).alloc (Nat.le_refl _) _, by rw [hz]; simp⟩)
    obtain ⟨W, hW⟩ : ∃ x, w.alloc (.cells #[.int .i64 2, .string s, .slice none 0 0, .slice none 0 0] 33) = x := ⟨_, rfl⟩
    obtain ⟨b1, g1, l1⟩ := GA.out W hW
    have HG := Lib.hid g1
    have HB := Lib.hid b1
    have HL := Lib.hid l1
    rw [hW, ← hz]
    clear hW g1 GA l1 hz b1
    have r0 : (W.alloc (.cells #[.int .i64 0, .int .i64 0, .string ⟨#[]⟩, .slice none 0 0] 46)).cell? ⟨W.heap.size, 0, none⟩ = some (.int .i64 0) := World.cell?_alloc_at _ _ _ _ rfl
    have r1 : (W.alloc (.cells #[.int .i64 0, .int .i64 0, .string ⟨#[]⟩, .slice none 0 0] 46)).cell? ⟨W.heap.size, 1, none⟩ = some (.int .i64 0) := World.cell?_alloc_at _ _ _ _ rfl
    have r2 : (W.alloc (.cells #[.int .i64 0, .int .i64 0, .string ⟨#[]⟩, .slice none 0 0] 46)).cell? ⟨W.heap.size, 2, none⟩ = some (.string ⟨#[]⟩) := World.cell?_alloc_at _ _ _ _ rfl
    have r3 : (W.alloc (.cells #[.int .i64 0, .int .i64 0, .string ⟨#[]⟩, .slice none 0 0] 46)).cell? ⟨W.heap.size, 3, none⟩ = some (.slice none 0 0) := World.cell?_alloc_at _ _ _ _ rfl
    have q0 : (W.alloc (.cells #[.int .i64 0, .int .i64 0, .string ⟨#[]⟩, .slice none 0 0] 46)).frozen? ⟨W.heap.size, 0, none⟩ = false := World.frozen?_alloc_at _ _ _ _ rfl
    have q1 : (W.alloc (.cells #[.int .i64 0, .int .i64 0, .string ⟨#[]⟩, .slice none 0 0] 46)).frozen? ⟨W.heap.size, 1, none⟩ = false := World.frozen?_alloc_at _ _ _ _ rfl
    have q2 : (W.alloc (.cells #[.int .i64 0, .int .i64 0, .string ⟨#[]⟩, .slice none 0 0] 46)).frozen? ⟨W.heap.size, 2, none⟩ = false := World.frozen?_alloc_at _ _ _ _ rfl
    have q3 : (W.alloc (.cells #[.int .i64 0, .int .i64 0, .string ⟨#[]⟩, .slice none 0 0] 46)).frozen? ⟨W.heap.size, 3, none⟩ = false := World.frozen?_alloc_at _ _ _ _ rfl
    go_upto_region 5 with fail
    clear r0 r1 r2 r3 q0 q1 q2 q3
    have GB : Hid (∀ X, W.alloc (.cells #[.int .i64 3, .int .i64 0, .string s, .slice none 0 0] 46) = X → WoAt s w z W.heap.size X) := Lib.hid (by
      rintro X rfl
      exact ⟨(((Below.refl W.heap.size W).alloc (Nat.le_refl _) _).block z HL.out).trans HB.out, heap_alloc_new W _, below_mono HG.out ((Below.refl W.heap.size W).alloc (Nat.le_refl _) _) (Nat.le_refl _)⟩)
    obtain ⟨X, hX⟩ : ∃ x, W.alloc (.cells #[.int .i64 3, .int .i64 0, .string s, .slice none 0 0] 46) = x := ⟨_, rfl⟩
    have HA := Lib.hid (GB.out X hX)
    rw [hX]
    obtain ⟨y, hy⟩ : ∃ x, x = W.heap.size := ⟨_, rfl⟩
    rw [← hy] at HA
    rw [← hy]
    clear hX GB hy HG HB HL h3
    have c0 : X.cell? ⟨z, 0, none⟩ = some (.int .i64 2) := cell_blk HA.out.one 0
    have c1 : X.cell? ⟨z, 1, none⟩ = some (.string s) := cell_blk HA.out.one 1
    have c2 : X.cell? ⟨z, 2, none⟩ = some (.slice none 0 0) := cell_blk HA.out.one 2
    have c3 : X.cell? ⟨z, 3, none⟩ = some (.slice none 0 0) := cell_blk HA.out.one 3
    have d0 : X.cell? ⟨y, 0, none⟩ = some (.int .i64 3) := cell_blk HA.out.see 0
    have d1 : X.cell? ⟨y, 1, none⟩ = some (.int .i64 0) := cell_blk HA.out.see 1
    have d2 : X.cell? ⟨y, 2, none⟩ = some (.string s) := cell_blk HA.out.see 2
    have d3 : X.cell? ⟨y, 3, none⟩ = some (.slice none 0 0) := cell_blk HA.out.see 3
    go_wp2_with (first | (go_at_call 18; (with_reducible refine (CR1.out _).mono ?_); rintro e W1 ⟨rfl, rfl⟩) | (go_at_call 19; (with_reducible refine (CR2.out _).mono ?_); rintro e W1 ⟨rfl, hB⟩; have HA' := Lib.hid (HA.out.next hB); clear hB c0 c1 c2 c3 d0 d1 d2 d3; have HA := HA'; clear HA'; obtain ⟨⟨c0, c1, c2, c3⟩, d0, d1, d2, d3⟩ := HA.out.cells) | (go_at_call 20; (with_reducible refine (CF.out _).mono ?_); rintro e W1 ⟨rfl, hB⟩; have HA' := Lib.hid (HA.out.next hB); clear hB c0 c1 c2 c3 d0 d1 d2 d3; have HA := HA'; clear HA'; obtain ⟨⟨c0, c1, c2, c3⟩, d0, d1, d2, d3⟩ := HA.out.cells) | (go_at_call 16; (with_reducible refine (CO.out _).mono ?_); rintro e W1 ⟨rfl, hB⟩; have HA' := Lib.hid (HA.out.next hB); clear hB c0 c1 c2 c3 d0 d1 d2 d3; have HA := HA'; clear HA'; obtain ⟨⟨c0, c1, c2, c3⟩, d0, d1, d2, d3⟩ := HA.out.cells) | (go_at_call 21; (with_reducible refine (CE.out _).mono ?_); rintro e W1 ⟨rfl, hB⟩; have HA' := Lib.hid (HA.out.next hB); clear hB c0 c1 c2 c3 d0 d1 d2 d3; have HA := HA'; clear HA'; obtain ⟨⟨c0, c1, c2, c3⟩, d0, d1, d2, d3⟩ := HA.out.cells) | (go_at_call 7; (with_reducible refine (CA.out _).mono ?_); rintro e W1 ⟨rfl, hB⟩; have HA' := Lib.hid (HA.out.next hB); clear hB c0 c1 c2 c3 d0 d1 d2 d3; have HA := HA'; clear HA'; obtain ⟨⟨c0, c1, c2, c3⟩, d0, d1, d2, d3⟩ := HA.out.cells))
    all_goals go_ret
    all_goals exact ⟨rfl, HA.out.bel⟩
end Go.Proofs.Ytepoihokbcoidaa
