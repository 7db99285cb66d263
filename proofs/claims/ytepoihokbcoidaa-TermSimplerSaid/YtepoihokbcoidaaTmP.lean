/- Layer 18: the document's example, walked. Conditions: those written at each theorem. -/
import Derived.Test.YtepoihokbcoidaaTmO
namespace Go.Proofs.Ytepoihokbcoidaa
open Go.RowKit Go.PlainAid
set_option linter.unusedVariables false
set_option linter.unusedSimpArgs false
abbrev usd : ByteArray := ⟨#[85, 83, 68]⟩
/-- The three boxes of the document's example. -/
structure AwAt (w0 : World) (z b c t : Nat) (W : World) : Prop where
  one : W.heap[z]? = some (.cells #[.int .i64 2, .string usd, .slice none 0 0, .slice none 0 0] 33 (0, 0))
  two : TwoAt usd b c W
  box : W.heap[t]? = some (.cells #[.int .i64 3, .string ⟨#[]⟩, .slice none 0 0, .slice (some ⟨c, 0, none⟩) 1 1] 33 (0, 0))
  bel : Below w0.heap.size w0 W
theorem AwAt.drew {w0 : World} {z b c t : Nat} {W : World} (h : AwAt w0 z b c t W) : AwAt w0 z b c t W.drew := ⟨h.one, h.two, h.box, ⟨h.bel.os, h.bel.tape, h.bel.output, h.bel.size, h.bel.block⟩⟩
theorem AwAt.next {w0 : World} {z b c t : Nat} {W W' : World} (h : AwAt w0 z b c t W) (k : Below W.heap.size W W') : AwAt w0 z b c t W' := ⟨(k.block z (lt_of_heap h.one)).trans h.one, h.two.below k, (k.block t (lt_of_heap h.box)).trans h.box, below_mono h.bel k (Nat.le_refl _)⟩
theorem undraw {w w3 : World} (h : Below w.drew.heap.size w.drew w3) : Below w.heap.size w w3 := ⟨h.os, h.tape, h.output, h.size, h.block⟩
theorem fre_usd : fre usd = true := by decide +kernel
set_option maxRecDepth 100000 in
set_option maxHeartbeats 4000000 in
theorem awake_any (w : World) : Calls Try.prog 7 #[] w fun e w' => e = .returned (.bool true) ∧ Below w.heap.size w w' := by
  have r0 : (w.alloc (.cells #[.int .i64 0, .string ⟨#[]⟩, .slice none 0 0, .slice none 0 0] 33)).cell? ⟨w.heap.size, 0, none⟩ = some (.int .i64 0) := World.cell?_alloc_at _ _ _ _ rfl
  have r1 : (w.alloc (.cells #[.int .i64 0, .string ⟨#[]⟩, .slice none 0 0, .slice none 0 0] 33)).cell? ⟨w.heap.size, 1, none⟩ = some (.string ⟨#[]⟩) := World.cell?_alloc_at _ _ _ _ rfl
  have r2 : (w.alloc (.cells #[.int .i64 0, .string ⟨#[]⟩, .slice none 0 0, .slice none 0 0] 33)).cell? ⟨w.heap.size, 2, none⟩ = some (.slice none 0 0) := World.cell?_alloc_at _ _ _ _ rfl
  have r3 : (w.alloc (.cells #[.int .i64 0, .string ⟨#[]⟩, .slice none 0 0, .slice none 0 0] 33)).cell? ⟨w.heap.size, 3, none⟩ = some (.slice none 0 0) := World.cell?_alloc_at _ _ _ _ rfl
  have q0 : (w.alloc (.cells #[.int .i64 0, .string ⟨#[]⟩, .slice none 0 0, .slice none 0 0] 33)).frozen? ⟨w.heap.size, 0, none⟩ = false := World.frozen?_alloc_at _ _ _ _ rfl
  have q1 : (w.alloc (.cells #[.int .i64 0, .string ⟨#[]⟩, .slice none 0 0, .slice none 0 0] 33)).frozen? ⟨w.heap.size, 1, none⟩ = false := World.frozen?_alloc_at _ _ _ _ rfl
  have q2 : (w.alloc (.cells #[.int .i64 0, .string ⟨#[]⟩, .slice none 0 0, .slice none 0 0] 33)).frozen? ⟨w.heap.size, 2, none⟩ = false := World.frozen?_alloc_at _ _ _ _ rfl
  have q3 : (w.alloc (.cells #[.int .i64 0, .string ⟨#[]⟩, .slice none 0 0, .slice none 0 0] 33)).frozen? ⟨w.heap.size, 3, none⟩ = false := World.frozen?_alloc_at _ _ _ _ rfl
  go_enter Try.func7, Try.ntmps7
  go_upto_region 2 with fail
  clear r0 r1 r2 r3 q0 q1 q2 q3
  obtain ⟨z, hz⟩ : ∃ z, z = w.heap.size := ⟨_, rfl⟩
  have GA : Hid (∀ W, w.alloc (.cells #[.int .i64 2, .string usd, .slice none 0 0, .slice none 0 0] 33) = W → W.heap[z]? = some (.cells #[.int .i64 2, .string usd, .slice none 0 0, .slice none 0 0] 33 (0, 0)) ∧ Below w.heap.size w W ∧ z < W.heap.size ∧ w.heap.size ≤ W.heap.size) := Lib.hid (by
    rintro W rfl
    exact ⟨by rw [hz]; exact heap_alloc_new w _, (Below.refl w.heap.size w).alloc (Nat.le_refl _) _, by rw [hz]; simp, by simp⟩)
  obtain ⟨W, hW⟩ : ∃ x, w.alloc (.cells #[.int .i64 2, .string usd, .slice none 0 0, .slice none 0 0] 33) = x := ⟨_, rfl⟩
  obtain ⟨b1, g1, l1, l2⟩ := GA.out W hW
  have HG := Lib.hid g1
  have HB := Lib.hid b1
  have HL := Lib.hid (And.intro l1 l2)
  rw [hW, ← hz]
  clear hW g1 GA l1 l2 hz
  have c0 : W.cell? ⟨z, 0, none⟩ = some (.int .i64 2) := cell_blk b1 0
  have c1 : W.cell? ⟨z, 1, none⟩ = some (.string usd) := cell_blk b1 1
  have c2 : W.cell? ⟨z, 2, none⟩ = some (.slice none 0 0) := cell_blk b1 2
  have c3 : W.cell? ⟨z, 3, none⟩ = some (.slice none 0 0) := cell_blk b1 3
  clear b1
  have HR : ∀ (X : World) (k : Nat), X.heap.size = k → (X.alloc (.cells #[.int .i64 0, .string ⟨#[]⟩, .slice none 0 0, .slice none 0 0] 33)).cell? ⟨k, 0, none⟩ = some (.int .i64 0) ∧ (X.alloc (.cells #[.int .i64 0, .string ⟨#[]⟩, .slice none 0 0, .slice none 0 0] 33)).cell? ⟨k, 1, none⟩ = some (.string ⟨#[]⟩) ∧ (X.alloc (.cells #[.int .i64 0, .string ⟨#[]⟩, .slice none 0 0, .slice none 0 0] 33)).cell? ⟨k, 2, none⟩ = some (.slice none 0 0) ∧ (X.alloc (.cells #[.int .i64 0, .string ⟨#[]⟩, .slice none 0 0, .slice none 0 0] 33)).cell? ⟨k, 3, none⟩ = some (.slice none 0 0) ∧ (X.alloc (.cells #[.int .i64 0, .string ⟨#[]⟩, .slice none 0 0, .slice none 0 0] 33)).frozen? ⟨k, 0, none⟩ = false ∧ (X.alloc (.cells #[.int .i64 0, .string ⟨#[]⟩, .slice none 0 0, .slice none 0 0] 33)).frozen? ⟨k, 1, none⟩ = false ∧ (X.alloc (.cells #[.int .i64 0, .string ⟨#[]⟩, .slice none 0 0, .slice none 0 0] 33)).frozen? ⟨k, 2, none⟩ = false ∧ (X.alloc (.cells #[.int .i64 0, .string ⟨#[]⟩, .slice none 0 0, .slice none 0 0] 33)).frozen? ⟨k, 3, none⟩ = false := by
    rintro X k rfl
    exact ⟨World.cell?_alloc_at _ _ _ _ rfl, World.cell?_alloc_at _ _ _ _ rfl, World.cell?_alloc_at _ _ _ _ rfl, World.cell?_alloc_at _ _ _ _ rfl, World.frozen?_alloc_at _ _ _ _ rfl, World.frozen?_alloc_at _ _ _ _ rfl, World.frozen?_alloc_at _ _ _ _ rfl, World.frozen?_alloc_at _ _ _ _ rfl⟩
  obtain ⟨r0, r1, r2, r3, q0, q1, q2, q3⟩ := HR ((W.alloc (.cells #[.int .i64 2, .string usd, .slice none 0 0, .slice none 0 0] 33)).alloc (.cells #[.int .i64 3, .string ⟨#[]⟩, .slice none 0 0, .slice (some ⟨W.heap.size, 0, none⟩) 1 1] 33)) (W.heap.size + 1 + 1) (by simp)
  clear HR
  go_upto_region 3 with fail
  clear r0 r1 r2 r3 q0 q1 q2 q3 c0 c1 c2 c3
  have GB : Hid (∀ X, ((W.alloc (.cells #[.int .i64 2, .string usd, .slice none 0 0, .slice none 0 0] 33)).alloc (.cells #[.int .i64 3, .string ⟨#[]⟩, .slice none 0 0, .slice (some ⟨W.heap.size, 0, none⟩) 1 1] 33)).alloc (.cells #[.int .i64 3, .string ⟨#[]⟩, .slice none 0 0, .slice (some ⟨W.heap.size + 1, 0, none⟩) 1 1] 33) = X → AwAt w z W.heap.size (W.heap.size + 1) (W.heap.size + 1 + 1) X) := Lib.hid (by
    rintro X rfl
    have h1 : (W.alloc (.cells #[.int .i64 2, .string usd, .slice none 0 0, .slice none 0 0] 33)).heap.size = W.heap.size + 1 := by simp
    have h2 : ((W.alloc (.cells #[.int .i64 2, .string usd, .slice none 0 0, .slice none 0 0] 33)).alloc (.cells #[.int .i64 3, .string ⟨#[]⟩, .slice none 0 0, .slice (some ⟨W.heap.size, 0, none⟩) 1 1] 33)).heap.size = W.heap.size + 1 + 1 := by simp
    have k1 := (Below.refl W.heap.size W).alloc (Nat.le_refl _) (.cells #[.int .i64 2, .string usd, .slice none 0 0, .slice none 0 0] 33)
    have a1 := heap_alloc_new W (.cells #[.int .i64 2, .string usd, .slice none 0 0, .slice none 0 0] 33)
    generalize (W.alloc (.cells #[.int .i64 2, .string usd, .slice none 0 0, .slice none 0 0] 33)) = X1 at *
    have k2 := (Below.refl X1.heap.size X1).alloc (Nat.le_refl _) (.cells #[.int .i64 3, .string ⟨#[]⟩, .slice none 0 0, .slice (some ⟨W.heap.size, 0, none⟩) 1 1] 33)
    have a2 := heap_alloc_new X1 (.cells #[.int .i64 3, .string ⟨#[]⟩, .slice none 0 0, .slice (some ⟨W.heap.size, 0, none⟩) 1 1] 33)
    generalize (X1.alloc (.cells #[.int .i64 3, .string ⟨#[]⟩, .slice none 0 0, .slice (some ⟨W.heap.size, 0, none⟩) 1 1] 33)) = X2 at *
    have k3 := (Below.refl X2.heap.size X2).alloc (Nat.le_refl _) (.cells #[.int .i64 3, .string ⟨#[]⟩, .slice none 0 0, .slice (some ⟨W.heap.size + 1, 0, none⟩) 1 1] 33)
    have a3 := heap_alloc_new X2 (.cells #[.int .i64 3, .string ⟨#[]⟩, .slice none 0 0, .slice (some ⟨W.heap.size + 1, 0, none⟩) 1 1] 33)
    have k2a := k2
    have k3a := k3
    rw [h1] at a2 k2
    rw [h2] at a3 k3
    have hl := HL.out.1
    refine ⟨?_, ⟨?_, ?_⟩, a3, ?_⟩
    · exact (k3.block z (by omega)).trans ((k2.block z (by omega)).trans ((k1.block z hl).trans HB.out))
    · exact (k3.block _ (by omega)).trans ((k2.block _ (by omega)).trans a1)
    · exact (k3.block _ (by omega)).trans a2
    · exact below_mono (below_mono (below_mono HG.out k1 (Nat.le_refl _)) k2a (Nat.le_refl _)) k3a (Nat.le_refl _))
  obtain ⟨X, hX⟩ : ∃ x, ((W.alloc (.cells #[.int .i64 2, .string usd, .slice none 0 0, .slice none 0 0] 33)).alloc (.cells #[.int .i64 3, .string ⟨#[]⟩, .slice none 0 0, .slice (some ⟨W.heap.size, 0, none⟩) 1 1] 33)).alloc (.cells #[.int .i64 3, .string ⟨#[]⟩, .slice none 0 0, .slice (some ⟨W.heap.size + 1, 0, none⟩) 1 1] 33) = x := ⟨_, rfl⟩
  have HA := Lib.hid (GB.out X hX)
  rw [hX]
  obtain ⟨b, hb⟩ : ∃ x, x = W.heap.size := ⟨_, rfl⟩
  obtain ⟨c, hc⟩ : ∃ x, x = W.heap.size + 1 := ⟨_, rfl⟩
  obtain ⟨t, ht⟩ : ∃ x, x = W.heap.size + 1 + 1 := ⟨_, rfl⟩
  rw [← ht, ← hc, ← hb] at HA
  rw [← ht, ← hc, ← hb]
  clear hX GB hb hc ht HG HB HL
  have CR : Hid (∀ W, TwoAt usd b c W → Calls Try.prog 16 #[giveV c] W fun e w' => e = .returned (.bool true) ∧ Below W.heap.size W w') := Lib.hid fun W h => right_twice usd fre_usd b c (by decide +kernel) W h
  have CS : Hid (∀ W, TwoAt usd b c W → Calls Try.prog 9 #[giveV c] W fun e w' => e = .returned (oneV usd) ∧ Below W.heap.size W w') := Lib.hid fun W h => tsimple_twice usd fre_usd (by decide +kernel) b c W h
  have CE := Lib.hid (tsame_one usd)
  have c0 : X.cell? ⟨z, 0, none⟩ = some (.int .i64 2) := cell_blk HA.out.one 0
  have c1 : X.cell? ⟨z, 1, none⟩ = some (.string usd) := cell_blk HA.out.one 1
  have c2 : X.cell? ⟨z, 2, none⟩ = some (.slice none 0 0) := cell_blk HA.out.one 2
  have c3 : X.cell? ⟨z, 3, none⟩ = some (.slice none 0 0) := cell_blk HA.out.one 3
  have d0 : X.cell? ⟨t, 0, none⟩ = some (.int .i64 3) := cell_blk HA.out.box 0
  have d1 : X.cell? ⟨t, 1, none⟩ = some (.string ⟨#[]⟩) := cell_blk HA.out.box 1
  have d2 : X.cell? ⟨t, 2, none⟩ = some (.slice none 0 0) := cell_blk HA.out.box 2
  have d3 : X.cell? ⟨t, 3, none⟩ = some (.slice (some ⟨c, 0, none⟩) 1 1) := cell_blk HA.out.box 3
  go_region_held3 (fun W => (W.cell? ⟨z, 0, none⟩ = some (.int .i64 2) ∧ W.cell? ⟨z, 1, none⟩ = some (.string usd) ∧ W.cell? ⟨z, 2, none⟩ = some (.slice none 0 0) ∧ W.cell? ⟨z, 3, none⟩ = some (.slice none 0 0)) ∧ W.cell? ⟨t, 0, none⟩ = some (.int .i64 3) ∧ W.cell? ⟨t, 1, none⟩ = some (.string ⟨#[]⟩) ∧ W.cell? ⟨t, 2, none⟩ = some (.slice none 0 0) ∧ W.cell? ⟨t, 3, none⟩ = some (.slice (some ⟨c, 0, none⟩) 1 1))
    (first | exact ⟨⟨cell_blk HA.out.one 0, cell_blk HA.out.one 1, cell_blk HA.out.one 2, cell_blk HA.out.one 3⟩, cell_blk HA.out.box 0, cell_blk HA.out.box 1, cell_blk HA.out.box 2, cell_blk HA.out.box 3⟩ | (go_keep; done))
    (first
    | (go_at_call 16; (with_reducible refine (CR.out _ (by first | exact HA.out.two | exact HA.out.drew.two)).mono ?_); rintro e W1 ⟨rfl, hB⟩; have HA' := Lib.hid (HA.out.next (by first | exact hB | exact undraw hB)); clear hB; have HA := HA'; clear HA')
    | (go_at_call 9; (with_reducible refine (CS.out _ (by first | exact HA.out.two | exact HA.out.drew.two)).mono ?_); rintro e W1 ⟨rfl, hB⟩; have HA' := Lib.hid (HA.out.next (by first | exact hB | exact undraw hB)); clear hB; have HA := HA'; clear HA')
    | (go_at_call 17; (with_reducible refine (CE.out _).mono ?_); rintro e W1 ⟨rfl, hB⟩; have HA' := Lib.hid (HA.out.next (by first | exact hB | exact undraw hB)); clear hB; have HA := HA'; clear HA'))
  all_goals (go_wp2_with fail)
  all_goals go_ret
  all_goals exact ⟨rfl, HA.out.bel⟩
end Go.Proofs.Ytepoihokbcoidaa
