/- Layer 18: Simple, at the document's example. Conditions: those written at each theorem. -/
import Derived.Test.YtepoihokbcoidaaTmN
namespace Go.Proofs.Ytepoihokbcoidaa
open Go.RowKit Go.PlainAid
set_option linter.unusedVariables false
set_option linter.unusedSimpArgs false
set_option maxRecDepth 100000 in
set_option maxHeartbeats 4000000 in
theorem tsimple_twice (s : ByteArray) (hf : fre s = true) (hs : s.size ≤ maxLen) (b c : Nat) (w : World) (hT : TwoAt s b c w) : Calls Try.prog 9 #[giveV c] w fun e w' => e = .returned (oneV s) ∧ Below w.heap.size w w' := by
  have GA := Lib.hid (box_zero (.int .i64 3) (.string ⟨#[]⟩) (.slice none 0 0) (.slice (some ⟨c, 0, none⟩) 1 1) w)
  have CR := Lib.hid (fun W => right_twice s hf b c hs W)
  have CS := Lib.hid (fun W => simple_twice s b c W)
  have HT := Lib.hid hT
  obtain ⟨z, hz⟩ : ∃ z, z = w.heap.size := ⟨_, rfl⟩
  obtain ⟨y, hy⟩ : ∃ y, y = w.heap.size + 1 := ⟨_, rfl⟩
  clear hf hs hT
  go_enter Try.func9, Try.ntmps9
  go_upto_region 1 with fail
  obtain ⟨W, hW⟩ : ∃ x, (w.alloc (.cells #[.int .i64 3, .string ⟨#[]⟩, .slice none 0 0, .slice (some ⟨c, 0, none⟩) 1 1] 33)).alloc (.cells #[.int .i64 0, .string ⟨#[]⟩, .slice none 0 0, .slice none 0 0] 33) = x := ⟨_, rfl⟩
  obtain ⟨b1, b2, g1⟩ := GA.out W hW
  have HG := Lib.hid g1
  have HTW := Lib.hid (HT.out.below g1)
  rw [← hz] at b1
  rw [← hy] at b2
  rw [hW, ← hz, show z + 1 = y from by omega]
  have HB1 := Lib.hid b1
  have HB2 := Lib.hid b2
  have HY := Lib.hid (show w.heap.size ≤ y by omega)
  have c0 : W.cell? ⟨z, 0, none⟩ = some (.int .i64 3) := cell_blk b1 0
  have c1 : W.cell? ⟨z, 1, none⟩ = some (.string ⟨#[]⟩) := cell_blk b1 1
  have c2 : W.cell? ⟨z, 2, none⟩ = some (.slice none 0 0) := cell_blk b1 2
  have c3 : W.cell? ⟨z, 3, none⟩ = some (.slice (some ⟨c, 0, none⟩) 1 1) := cell_blk b1 3
  clear hW b1 b2 g1 GA hz hy
  go_upto_region 3 with (go_at_call 16; (with_reducible refine (CR.out _ HTW.out).mono ?_); rintro e w2 ⟨rfl, hb⟩; have HC := Lib.hid hb; clear hb)
  have b1 := (HC.out.block z (lt_of_heap HB1.out)).trans HB1.out
  have b2 := (HC.out.block y (lt_of_heap HB2.out)).trans HB2.out
  have HT2 := Lib.hid (HTW.out.below HC.out)
  have HBW := Lib.hid (below_mono HG.out HC.out (Nat.le_refl _))
  have HB3 := Lib.hid b2
  clear c0 c1 c2 c3
  have c0 : w2.cell? ⟨z, 0, none⟩ = some (.int .i64 3) := cell_blk b1 0
  have c1 : w2.cell? ⟨z, 1, none⟩ = some (.string ⟨#[]⟩) := cell_blk b1 1
  have c2 : w2.cell? ⟨z, 2, none⟩ = some (.slice none 0 0) := cell_blk b1 2
  have c3 : w2.cell? ⟨z, 3, none⟩ = some (.slice (some ⟨c, 0, none⟩) 1 1) := cell_blk b1 3
  clear b1 b2
  go_wp2_with (go_at_call 24; (with_reducible refine (CS.out _ HT2.out).mono ?_); rintro e X ⟨rfl, hb⟩; have HX := Lib.hid (below_mono HBW.out hb (Nat.le_refl _)); have b2 := (hb.block y (lt_of_heap HB3.out)).trans HB3.out; have d0 : X.cell? ⟨y, 0, none⟩ = some (.int .i64 0) := cell_blk b2 0; have d1 : X.cell? ⟨y, 1, none⟩ = some (.string ⟨#[]⟩) := cell_blk b2 1; have d2 : X.cell? ⟨y, 2, none⟩ = some (.slice none 0 0) := cell_blk b2 2; have d3 : X.cell? ⟨y, 3, none⟩ = some (.slice none 0 0) := cell_blk b2 3; have p0 : X.frozen? ⟨y, 0, none⟩ = false := free_blk b2 0; have p1 : X.frozen? ⟨y, 1, none⟩ = false := free_blk b2 1; have p2 : X.frozen? ⟨y, 2, none⟩ = false := free_blk b2 2; have p3 : X.frozen? ⟨y, 3, none⟩ = false := free_blk b2 3; have HXL := Lib.hid (lt_of_heap b2); clear hb b2)
  exact bodyPost_ret (v := oneV s) (by simp [results, Try.results9, go_sem, d0, d1, d2, d3, p0, p1, p2, p3, HXL.out]) rfl ⟨rfl, (((HX.out.setCell (p := ⟨y, 0, none⟩) HY.out _).setCell (p := ⟨y, 1, none⟩) HY.out _).setCell (p := ⟨y, 2, none⟩) HY.out _).setCell (p := ⟨y, 3, none⟩) HY.out _⟩
end Go.Proofs.Ytepoihokbcoidaa
