/- The document's sum of a list. Conditions: those written at each theorem. -/
import Derived.Test.YtkfkoopfoiekoaaDoorNuE
import Derived.Test.YtkfkoopfoiekoaaDoorNuS
namespace Go.Proofs.YtkfkoopfoiekoaaDoor
open Go.RowKit Go.Sort
set_option linter.unusedSimpArgs false
set_option linter.unusedVariables false

/-- A store into a cell that holds no digit leaves digits as they are. -/
theorem MagIs.set_other {n : Nat} {v : Value} {w : World} (h : MagIs n v w) (p : Addr) (u u' : Value) (hp : w.cell? p = some u') (hu : ∀ d : Nat, u' ≠ .int .u64 (d : Int)) : MagIs n v (w.setCell p u) := by
  obtain ⟨ao, cap, rfl, h2, h3⟩ := h
  refine ⟨ao, cap, rfl, h2, h3.1, fun a e hl => ⟨by simpa using (h3.2 a e hl).1, fun i x hx => ?_⟩⟩
  have hc := (h3.2 a e hl).2 i x hx
  rw [World.cell?_setCell_other (a := p) (b := a.add i) _ _ (fun e' => ?_)]
  · exact hc
  · rw [← e', hp] at hc
    unfold us at hx
    rw [List.getElem?_map] at hx
    obtain ⟨d, _, rfl⟩ := Option.map_eq_some_iff.1 hx
    injection hc with hc
    exact hu d hc
theorem ne_bool (b : Bool) : ∀ d : Nat, Value.bool b ≠ .int .u64 (d : Int) := fun d e => by cases e
theorem ne_slice (a : Option Addr) (n c : Nat) : ∀ d : Nat, Value.slice a n c ≠ .int .u64 (d : Int) := fun d e => by cases e
/-- Memory while a list is summed: the box of the result (empty), the box of the sum. -/
structure SumBox (w : World) (z : Int) (g : Bool) (so : Option Addr) (k c : Nat) (wr : World) : Prop where
  r0 : wr.cell? ⟨w.heap.size, 0, none⟩ = some (.bool false)
  r1 : wr.cell? ⟨w.heap.size, 1, none⟩ = some (.slice none 0 0)
  f0 : wr.frozen? ⟨w.heap.size, 0, none⟩ = false
  f1 : wr.frozen? ⟨w.heap.size, 1, none⟩ = false
  b0 : wr.cell? ⟨w.heap.size + 1, 0, none⟩ = some (.bool g)
  b1 : wr.cell? ⟨w.heap.size + 1, 1, none⟩ = some (.slice so k c)
  h0 : wr.frozen? ⟨w.heap.size + 1, 0, none⟩ = false
  h1 : wr.frozen? ⟨w.heap.size + 1, 1, none⟩ = false
  big : BigIs z (.agg #[.bool g, .slice so k c]) wr
  bel : Below w.heap.size w wr
  siz : w.heap.size + 2 ≤ wr.heap.size
theorem SumBox.start (w : World) : SumBox w 0 false none 0 0 ((w.alloc (.cells #[.bool false, .slice none 0 0] 55)).alloc (.cells #[.bool false, .slice none 0 0] 55)) := by
  have b := boxes2 w _ #[.bool false, .slice none 0 0] #[.bool false, .slice none 0 0] 55 55 (Below.refl _ _)
  have e := box_two w _ (.cells #[.bool false, .slice none 0 0] 55) #[.bool false, .slice none 0 0] 55 (Below.refl _ _)
  refine ⟨b.1 0, b.1 1, ?_, ?_, b.2 0, b.2 1, e.2 0, e.2 1, ⟨.slice none 0 0, rfl, none, 0, rfl, Nat.le_refl _, SAt.nil _ _ _⟩, ((Below.refl _ _).alloc (Nat.le_refl _) _).alloc (by simp) _, by simp⟩
  all_goals (rw [World.frozen?_alloc_past _ _ _ (by simp)]; exact World.frozen?_alloc_at _ _ _ _ rfl)
theorem SumBox.next {w wr w' : World} {z : Int} {g : Bool} {so : Option Addr} {k c : Nat} (h : SumBox w z g so k c wr) (hb : Below wr.heap.size wr w') : SumBox w z g so k c w' := by
  have s := h.siz
  exact ⟨(hb.cell (p := ⟨_, _, none⟩) (by dsimp only; omega)).trans h.r0, (hb.cell (p := ⟨_, _, none⟩) (by dsimp only; omega)).trans h.r1, (hb.frozen (p := ⟨_, _, none⟩) (by dsimp only; omega)).trans h.f0, (hb.frozen (p := ⟨_, _, none⟩) (by dsimp only; omega)).trans h.f1,
    (hb.cell (p := ⟨_, _, none⟩) (by dsimp only; omega)).trans h.b0, (hb.cell (p := ⟨_, _, none⟩) (by dsimp only; omega)).trans h.b1, (hb.frozen (p := ⟨_, _, none⟩) (by dsimp only; omega)).trans h.h0, (hb.frozen (p := ⟨_, _, none⟩) (by dsimp only; omega)).trans h.h1,
    h.big.next hb, below_mono h.bel hb (Nat.le_refl _), Nat.le_trans h.siz hb.size⟩
/-- The new sum is stored. -/
theorem SumBox.put {w wr : World} {z y : Int} {g : Bool} {so : Option Addr} {k c : Nat} {go' : Bool} {uo : Option Addr} {uk uc : Nat} (h : SumBox w z g so k c wr) (hu : BigIs y (.agg #[.bool go', .slice uo uk uc]) wr) :
    SumBox w y go' uo uk uc ((wr.setCell ⟨w.heap.size + 1, 0, none⟩ (.bool go')).setCell ⟨w.heap.size + 1, 1, none⟩ (.slice uo uk uc)) := by
  have far : ∀ i, ((wr.setCell ⟨w.heap.size + 1, 0, none⟩ (.bool go')).setCell ⟨w.heap.size + 1, 1, none⟩ (.slice uo uk uc)).cell? ⟨w.heap.size, i, none⟩ = wr.cell? ⟨w.heap.size, i, none⟩ := fun i => set2_far _ _ _ _ _ (by dsimp only; omega)
  have c1 : (wr.setCell ⟨w.heap.size + 1, 0, none⟩ (.bool go')).cell? ⟨w.heap.size + 1, 1, none⟩ = some (.slice so k c) := by
    rw [World.cell?_setCell_other (a := ⟨w.heap.size + 1, 0, none⟩) (b := ⟨w.heap.size + 1, 1, none⟩) _ _ (fun e => by cases e)]; exact h.b1
  obtain ⟨m, hm, hmag⟩ := hu
  injection hm with hm
  simp only [Array.mk.injEq, List.cons.injEq, Value.bool.injEq, and_true] at hm
  obtain ⟨e1, e2⟩ := hm
  subst e2
  refine ⟨(far 0).trans h.r0, (far 1).trans h.r1, by simpa using h.f0, by simpa using h.f1, ?_, World.cell?_setCell_same _ _ _ c1, by simpa using h.h0, by simpa using h.h1, ⟨_, by rw [e1], ?_⟩,
    (h.bel.setCell (p := ⟨w.heap.size + 1, 0, none⟩) (by dsimp only; omega) _).setCell (p := ⟨w.heap.size + 1, 1, none⟩) (by dsimp only; omega) _, by simpa using h.siz⟩
  · rw [World.cell?_setCell_other (a := ⟨w.heap.size + 1, 1, none⟩) (b := ⟨w.heap.size + 1, 0, none⟩) _ _ (fun e => by cases e)]
    exact World.cell?_setCell_same _ _ _ h.b0
  · exact (hmag.set_other _ _ _ h.b0 (ne_bool _)).set_other _ _ _ c1 (ne_slice _ _ _)
/-- The sum is the result. -/
theorem SumBox.fin {w wr : World} {z : Int} {g : Bool} {so : Option Addr} {k c : Nat} (h : SumBox w z g so k c wr) :
    BigIs z (.agg #[.bool g, .slice so k c]) ((wr.setCell ⟨w.heap.size, 0, none⟩ (.bool g)).setCell ⟨w.heap.size, 1, none⟩ (.slice so k c)) := by
  have c1 : (wr.setCell ⟨w.heap.size, 0, none⟩ (.bool g)).cell? ⟨w.heap.size, 1, none⟩ = some (.slice none 0 0) := by
    rw [World.cell?_setCell_other (a := ⟨w.heap.size, 0, none⟩) (b := ⟨w.heap.size, 1, none⟩) _ _ (fun e => by cases e)]; exact h.r1
  obtain ⟨m, hm, hmag⟩ := h.big
  have hm' := hm
  injection hm with hm
  simp only [Array.mk.injEq, List.cons.injEq, Value.bool.injEq, and_true] at hm
  obtain ⟨e1, e2⟩ := hm
  subst e2
  exact ⟨_, by rw [e1], (hmag.set_other _ _ _ h.r0 (ne_bool _)).set_other _ _ _ c1 (ne_slice _ _ _)⟩
theorem dg_len5 {n : Nat} (h : n ≤ 9223372036854775808 * 1000) : (dg n).length ≤ 1000 := Nat.le_trans (dg_length_le (k := 5) (by omega)) (by omega)
theorem take_sum_bound (l : List Int) (j : Nat) (hl : l.length ≤ 1000) (hb : ∀ x ∈ l, -9223372036854775808 ≤ x ∧ x ≤ 9223372036854775807) : (l.take j).sum.natAbs ≤ 9223372036854775808 * 1000 := by
  have h := sum_bound (l.take j) (fun x hx => hb x (List.mem_of_mem_take hx))
  have h2 : (l.take j).length ≤ 1000 := by rw [List.length_take]; omega
  omega
end Go.Proofs.YtkfkoopfoiekoaaDoor
