/- A file read from codec's reader. Conditions: those written at each theorem. -/
import Derived.Test.YtchflkibbdfeaaaEdL
import Derived.Deep.RegionHeld3
namespace Go.Proofs.Ytchflkibbdfeaaa
open Go.RowKit Go.Sort
set_option linter.unusedVariables false
set_option linter.unusedSimpArgs false
theorem only_stay {b k : Nat} {w w' : World} {o : Obj} (h : w.grownBy w' (some b)) (hk : w.heap[k]? = some o) (hne : k ≠ b) : w'.heap[k]? = some o := (h.block k (lt_of_heap hk) (fun e => hne (Option.some.inj e))).trans hk
/-- The reader, the file's own block q with cells cs, the answer's block o, since w0. -/
structure TF (b : Nat) (σ : Option (List UInt8)) (cs : Array Value) (w0 W : World) : Prop where
  rd : Rd b σ W
  out : W.heap[w0.heap.size]? = some (.cells #[.int .i64 0, .int .i64 0, .string ⟨#[]⟩, .string ⟨#[]⟩, .int .i64 0, .int .i64 0] 47 (0, 0))
  own : W.heap[w0.heap.size + 1]? = some (.cells cs 47 (0, 0))
  bel : w0.grownBy W (some b)
  lo : b < w0.heap.size
theorem TF.step {b : Nat} {σ σ' : Option (List UInt8)} {cs : Array Value} {w0 W W' : World} (h : TF b σ cs w0 W) (hr : Rd b σ' W') (hg : W.grownBy W' (some b)) : TF b σ' cs w0 W' :=
  ⟨hr, only_stay hg h.out (by have := h.lo; omega), only_stay hg h.own (by have := h.lo; omega), only_trans h.bel hg, h.lo⟩
theorem TF.set {b : Nat} {σ : Option (List UInt8)} {cs : Array Value} {w0 W : World} (h : TF b σ cs w0 W) (i : Nat) (v : Value) : TF b σ (cs.setIfInBounds i v) w0 (W.setCell ⟨w0.heap.size + 1, i, none⟩ v) := by
  have hl := h.lo
  refine ⟨h.rd.under (Below.heap_setCell _ _ _ _ (by show b ≠ w0.heap.size + 1; omega)), (Below.heap_setCell _ _ _ _ (by show w0.heap.size ≠ w0.heap.size + 1; omega)).trans h.out, heap_set_at v h.own, ?_, hl⟩
  exact ⟨h.bel.os, h.bel.tape, h.bel.output, by simpa [World.setCell] using h.bel.size, fun k hk hne => (Below.heap_setCell _ _ _ _ (by show k ≠ w0.heap.size + 1; omega)).trans (h.bel.block k hk hne)⟩
theorem rg_set {b : Nat} {σ : Option (List UInt8)} {w0 W : World} (h : Rd b σ W ∧ w0.grownBy W (some b)) (hl : b < w0.heap.size) (i : Nat) (v : Value) : Rd b σ (W.setCell ⟨w0.heap.size, i, none⟩ v) ∧ w0.grownBy (W.setCell ⟨w0.heap.size, i, none⟩ v) (some b) :=
  ⟨h.1.under (Below.heap_setCell _ _ _ _ (by show b ≠ w0.heap.size; omega)), h.2.os, h.2.tape, h.2.output, by simpa [World.setCell] using h.2.size, fun k hk hne => (Below.heap_setCell _ _ _ _ (by show k ≠ w0.heap.size; omega)).trans (h.2.block k hk hne)⟩
set_option maxRecDepth 100000 in
set_option maxHeartbeats 4000000 in
theorem take_file {b : Nat} {σ : Option (List UInt8)} {w : World} (h : Rd b σ w) : Calls Try.prog 35 #[.pointer (some ⟨b, 0, none⟩)] w fun e w' => e = .returned (.agg (fl (sF σ).1).toArray) ∧ Rd b (sF σ).2 w' ∧ w.grownBy w' (some b) := by
  obtain ⟨σ1, h1⟩ : ∃ x, x = (sI σ).2 := ⟨_, rfl⟩
  obtain ⟨σ2, h2⟩ : ∃ x, x = (sI σ1).2 := ⟨_, rfl⟩
  obtain ⟨σ3, h3⟩ : ∃ x, x = (sT σ2).2 := ⟨_, rfl⟩
  obtain ⟨σ4, h4⟩ : ∃ x, x = (sT σ3).2 := ⟨_, rfl⟩
  obtain ⟨σ5, h5⟩ : ∃ x, x = (sI σ4).2 := ⟨_, rfl⟩
  obtain ⟨σ6, h6⟩ : ∃ x, x = (sI σ5).2 := ⟨_, rfl⟩
  obtain ⟨a1, k1⟩ : ∃ x, x = (sI σ).1 := ⟨_, rfl⟩
  obtain ⟨a2, k2⟩ : ∃ x, x = (sI σ1).1 := ⟨_, rfl⟩
  obtain ⟨a3, k3⟩ : ∃ x, x = (sT σ2).1 := ⟨_, rfl⟩
  obtain ⟨a4, k4⟩ : ∃ x, x = (sT σ3).1 := ⟨_, rfl⟩
  obtain ⟨a5, k5⟩ : ∃ x, x = (sI σ4).1 := ⟨_, rfl⟩
  obtain ⟨a6, k6⟩ : ∃ x, x = (sI σ5).1 := ⟨_, rfl⟩
  have hF : sF σ = (⟨a1, a2, a3, a4, a5, a6⟩, σ6) := by subst k1 k2 k3 k4 k5 k6; subst h6; subst h5; subst h4; subst h3; subst h2; subst h1; rfl
  rw [hF]
  have S1 : Hid (∀ w, Rd b σ w → Calls Try.prog 33 #[.pointer (some ⟨b, 0, none⟩)] w fun e w' => e = .returned (.int .i64 a1) ∧ Rd b σ1 w' ∧ w.grownBy w' (some b)) := Lib.hid fun w h => by rw [k1, h1]; exact rd_size h
  have S2 : Hid (∀ w, Rd b σ1 w → Calls Try.prog 33 #[.pointer (some ⟨b, 0, none⟩)] w fun e w' => e = .returned (.int .i64 a2) ∧ Rd b σ2 w' ∧ w.grownBy w' (some b)) := Lib.hid fun w h => by rw [k2, h2]; exact rd_size h
  have S3 : Hid (∀ w, Rd b σ2 w → Calls Try.prog 58 #[.pointer (some ⟨b, 0, none⟩), .int .i64 80] w fun e w' => e = .returned (.string a3) ∧ Rd b σ3 w' ∧ w.grownBy w' (some b)) := Lib.hid fun w h => by rw [k3, h3]; exact rd_text h
  have S4 : Hid (∀ w, Rd b σ3 w → Calls Try.prog 58 #[.pointer (some ⟨b, 0, none⟩), .int .i64 80] w fun e w' => e = .returned (.string a4) ∧ Rd b σ4 w' ∧ w.grownBy w' (some b)) := Lib.hid fun w h => by rw [k4, h4]; exact rd_text h
  have S5 : Hid (∀ w, Rd b σ4 w → Calls Try.prog 33 #[.pointer (some ⟨b, 0, none⟩)] w fun e w' => e = .returned (.int .i64 a5) ∧ Rd b σ5 w' ∧ w.grownBy w' (some b)) := Lib.hid fun w h => by rw [k5, h5]; exact rd_size h
  have S6 : Hid (∀ w, Rd b σ5 w → Calls Try.prog 33 #[.pointer (some ⟨b, 0, none⟩)] w fun e w' => e = .returned (.int .i64 a6) ∧ Rd b σ6 w' ∧ w.grownBy w' (some b)) := Lib.hid fun w h => by rw [k6, h6]; exact rd_size h
  have hlt := h.lt
  obtain ⟨w1, hw1⟩ : ∃ x, x = (w.alloc (.cells #[.int .i64 0, .int .i64 0, .string ⟨#[]⟩, .string ⟨#[]⟩, .int .i64 0, .int .i64 0] 47)).alloc (.cells #[.int .i64 0, .int .i64 0, .string ⟨#[]⟩, .string ⟨#[]⟩, .int .i64 0, .int .i64 0] 47) := ⟨_, rfl⟩
  have hb1 : Below w.heap.size w w1 := by rw [hw1]; exact ((Below.refl _ _).alloc (Nat.le_refl _) _).alloc (by simp) _
  have hO : w1.heap[w.heap.size]? = some (.cells #[.int .i64 0, .int .i64 0, .string ⟨#[]⟩, .string ⟨#[]⟩, .int .i64 0, .int .i64 0] 47 (0, 0)) := by
    rw [hw1, Below.heap_alloc _ _ _ (by simp)]; exact heap_alloc_new w _
  have hX : w1.heap[w.heap.size + 1]? = some (.cells #[.int .i64 0, .int .i64 0, .string ⟨#[]⟩, .string ⟨#[]⟩, .int .i64 0, .int .i64 0] 47 (0, 0)) := by
    rw [hw1]
    have := heap_alloc_new (w.alloc (.cells #[.int .i64 0, .int .i64 0, .string ⟨#[]⟩, .string ⟨#[]⟩, .int .i64 0, .int .i64 0] 47)) (.cells #[.int .i64 0, .int .i64 0, .string ⟨#[]⟩, .string ⟨#[]⟩, .int .i64 0, .int .i64 0] 47)
    simpa using this
  have HT := Lib.hid (TF.mk (h.under (hb1.block b h.lt)) hO hX (grown_below2 (b := b) hb1) hlt)
  have HW1 := Lib.hid hw1
  clear hw1 hb1 hO hX h hF h1 h2 h3 h4 h5 h6 k1 k2 k3 k4 k5 k6 hlt
  go_enter Try.func35, Try.ntmps35
  go_upto_region 2 with fail
  refine wp_letter (fun W => w1 = W) HW1.out ?_
  rintro _ rfl
  clear HW1
  go_upto_region 3 with (go_at_call 33; first | ((with_reducible refine (S1.out _ HT.out.rd).mono ?_); rintro e w2 ⟨rfl, hr, hg⟩; have HT := Lib.hid (HT.out.step hr hg); clear hr hg) | ((with_reducible refine (S2.out _ HT.out.rd).mono ?_); rintro e w2 ⟨rfl, hr, hg⟩; have HT := Lib.hid (HT.out.step hr hg); have hx := HT.out.own; have x0 := cell_blk hx 0; have x1 := cell_blk hx 1; have f0 := free_blk hx 0; have f1 := free_blk hx 1; simp only [List.getElem?_toArray] at x0 x1; clear hr hg hx))
  refine wp_letter (fun W => TF b σ2 #[.int .i64 a1, .int .i64 a2, .string ⟨#[]⟩, .string ⟨#[]⟩, .int .i64 0, .int .i64 0] w W) ((HT.out.set 0 (.int .i64 a1)).set 1 (.int .i64 a2)) ?_
  intro w3 ht
  have HT := Lib.hid ht
  clear ht x0 x1 f0 f1 S1 S2
  go_upto_region 4 with (go_at_call 58; first | ((with_reducible refine (S3.out _ HT.out.rd).mono ?_); rintro e w2 ⟨rfl, hr, hg⟩; have HT := Lib.hid (HT.out.step hr hg); clear hr hg) | ((with_reducible refine (S4.out _ HT.out.rd).mono ?_); rintro e w2 ⟨rfl, hr, hg⟩; have HT := Lib.hid (HT.out.step hr hg); have hx := HT.out.own; have x2 := cell_blk hx 2; have x3 := cell_blk hx 3; have f2 := free_blk hx 2; have f3 := free_blk hx 3; simp only [List.getElem?_toArray] at x2 x3; clear hr hg hx))
  refine wp_letter (fun W => TF b σ4 #[.int .i64 a1, .int .i64 a2, .string a3, .string a4, .int .i64 0, .int .i64 0] w W) ((HT.out.set 2 (.string a3)).set 3 (.string a4)) ?_
  intro w4 ht
  have HT := Lib.hid ht
  clear ht x2 x3 f2 f3 S3 S4
  go_upto_region 5 with (go_at_call 33; first | ((with_reducible refine (S5.out _ HT.out.rd).mono ?_); rintro e w2 ⟨rfl, hr, hg⟩; have HT := Lib.hid (HT.out.step hr hg); clear hr hg) | ((with_reducible refine (S6.out _ HT.out.rd).mono ?_); rintro e w2 ⟨rfl, hr, hg⟩; have HT := Lib.hid (HT.out.step hr hg); have hx := HT.out.own; have x4 := cell_blk hx 4; have x5 := cell_blk hx 5; have f4 := free_blk hx 4; have f5 := free_blk hx 5; simp only [List.getElem?_toArray] at x4 x5; clear hr hg hx))
  refine wp_letter (fun W => TF b σ6 #[.int .i64 a1, .int .i64 a2, .string a3, .string a4, .int .i64 a5, .int .i64 a6] w W) ((HT.out.set 4 (.int .i64 a5)).set 5 (.int .i64 a6)) ?_
  intro w5 ht
  have HT := Lib.hid ht
  obtain ⟨y0, y1, y2, y3, y4, y5⟩ := six_cells ht.own
  obtain ⟨o0, o1, o2, o3, o4, o5⟩ := six_cells ht.out
  have p0 := free_blk ht.out 0
  have p1 := free_blk ht.out 1
  have p2 := free_blk ht.out 2
  have p3 := free_blk ht.out 3
  have p4 := free_blk ht.out 4
  have p5 := free_blk ht.out 5
  clear ht x4 x5 f4 f5 S5 S6
  have HL := Lib.hid HT.out.lo
  have HFIN := Lib.hid (rg_set (rg_set (rg_set (rg_set (rg_set (rg_set ⟨HT.out.rd, HT.out.bel⟩ HL.out 0 (.int .i64 a1)) HL.out 1 (.int .i64 a2)) HL.out 2 (.string a3)) HL.out 3 (.string a4)) HL.out 4 (.int .i64 a5)) HL.out 5 (.int .i64 a6))
  go_wp2_with fail
  exact bodyPost_ret (v := .agg #[.int .i64 a1, .int .i64 a2, .string a3, .string a4, .int .i64 a5, .int .i64 a6]) (by simp [results, Try.results35, go_sem, o0, o1, o2, o3, o4, o5, p0, p1, p2, p3, p4, p5]) rfl ⟨rfl, HFIN.out⟩
end Go.Proofs.Ytchflkibbdfeaaa
