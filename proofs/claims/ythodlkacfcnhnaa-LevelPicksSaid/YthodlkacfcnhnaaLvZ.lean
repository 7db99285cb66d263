/- Layer 15: boxes that hold numbers of any size. Conditions: those written at each theorem. -/
import Derived.Test.YthodlkacfcnhnaaLvY
import Derived.Test.YthodlkacfcnhnaaNuQ
namespace Go.Proofs.Ythodlkacfcnhnaa
open Go.RowKit Go.Sort
set_option linter.unusedVariables false
set_option linter.unusedSimpArgs false
/-- A store into a cell that holds no digit leaves digits as they are. -/
theorem mag_other {n : Nat} {v : Value} {w : World} (h : Nu.MagIs n v w) (p : Addr) (u u' : Value) (hp : w.cell? p = some u') (hu : ∀ d : Nat, u' ≠ .int .u64 (d : Int)) : Nu.MagIs n v (w.setCell p u) := by
  obtain ⟨ao, cap, rfl, h2, h3⟩ := h
  refine ⟨ao, cap, rfl, h2, h3.1, fun a e hl => ⟨by simpa using (h3.2 a e hl).1, fun i x hx => ?_⟩⟩
  have hc := (h3.2 a e hl).2 i x hx
  rw [World.cell?_setCell_other (a := p) (b := a.add i) _ _ (fun e' => ?_)]
  · exact hc
  · rw [← e', hp] at hc
    unfold Nu.us at hx
    rw [List.getElem?_map] at hx
    obtain ⟨d, _, rfl⟩ := Option.map_eq_some_iff.1 hx
    injection hc with hc
    exact hu d hc
theorem Nu.BigIs.drew {z : Int} {v : Value} {w : World} (h : Nu.BigIs z v w) : Nu.BigIs z v w.drew := h
def BB (z : Int) (b : Nat) (W : World) : Prop := ∃ g so k c, W.heap[b]? = some (.cells #[.bool g, .slice so k c] 55 (0, 0)) ∧ Nu.BigIs z (.agg #[.bool g, .slice so k c]) W
theorem BB.next {z : Int} {b : Nat} {W W' : World} (h : BB z b W) (k : Below W.heap.size W W') : BB z b W' := by
  obtain ⟨g, so, n, c, h1, h2⟩ := h
  exact ⟨g, so, n, c, (k.block b (lt_of_heap h1)).trans h1, h2.next k⟩
theorem BB.made {z : Int} {g : Bool} {so : Option Addr} {k c : Nat} {W : World} (h : Nu.BigIs z (.agg #[.bool g, .slice so k c]) W) : BB z W.heap.size (W.alloc (.cells #[.bool g, .slice so k c] 55)) :=
  ⟨g, so, k, c, heap_alloc_new _ _, h.next ((Below.refl _ _).alloc (Nat.le_refl _) _)⟩
theorem big_set {z : Int} {B : Nat} {g g' : Bool} {so s' : Option Addr} {k c k' c' : Nat} {v : Value} {W : World} (hB : W.heap[B]? = some (.cells #[.bool g, .slice so k c] 55 (0, 0))) (h : Nu.BigIs z v W) :
    Nu.BigIs z v ((W.setCell ⟨B, 0, none⟩ (.bool g')).setCell ⟨B, 1, none⟩ (.slice s' k' c')) := by
  obtain ⟨m, e, hm⟩ := h
  have c0 : W.cell? ⟨B, 0, none⟩ = some (.bool g) := cell_blk hB 0
  have c1 : (W.setCell ⟨B, 0, none⟩ (.bool g')).cell? ⟨B, 1, none⟩ = some (.slice so k c) := by
    rw [World.cell?_setCell_other (a := ⟨B, 0, none⟩) (b := ⟨B, 1, none⟩) _ _ (by simp)]
    exact cell_blk hB 1
  exact ⟨m, e, mag_other (mag_other hm _ _ _ c0 (fun d e => by cases e)) _ _ _ c1 (fun d e => by cases e)⟩
theorem BB.put {z : Int} {b B : Nat} {g g' : Bool} {so s' : Option Addr} {k c k' c' : Nat} {W : World} (h : BB z b W) (hB : W.heap[B]? = some (.cells #[.bool g, .slice so k c] 55 (0, 0))) (hne : b ≠ B) :
    BB z b ((W.setCell ⟨B, 0, none⟩ (.bool g')).setCell ⟨B, 1, none⟩ (.slice s' k' c')) := by
  obtain ⟨g1, s1, n1, c1, h1, h2⟩ := h
  exact ⟨g1, s1, n1, c1, by rw [heap_far _ (Ne.symm hne), heap_far _ (Ne.symm hne)]; exact h1, big_set hB h2⟩
theorem BB.set {z : Int} {B : Nat} {g g' : Bool} {so s' : Option Addr} {k c k' c' : Nat} {W : World} (hB : W.heap[B]? = some (.cells #[.bool g, .slice so k c] 55 (0, 0))) (h : Nu.BigIs z (.agg #[.bool g', .slice s' k' c']) W) :
    BB z B ((W.setCell ⟨B, 0, none⟩ (.bool g')).setCell ⟨B, 1, none⟩ (.slice s' k' c')) :=
  ⟨g', s', k', c', heap_set2 hB _ _, big_set hB h⟩
/-- Some boxes of numbers, made behind a world. -/
structure PL (w0 : World) (bs : List (Nat × Int)) (W : World) : Prop where
  bel : Below w0.heap.size w0 W
  all : ∀ p ∈ bs, BB p.2 p.1 W ∧ w0.heap.size ≤ p.1
theorem PL.next {w0 : World} {bs : List (Nat × Int)} {W W' : World} (h : PL w0 bs W) (k : Below W.heap.size W W') : PL w0 bs W' :=
  ⟨below_mono h.bel k (Nat.le_refl _), fun p hp => ⟨(h.all p hp).1.next k, (h.all p hp).2⟩⟩
theorem PL.sub {w0 : World} {bs cs : List (Nat × Int)} {W : World} (h : PL w0 bs W) (hs : ∀ p ∈ cs, p ∈ bs) : PL w0 cs W :=
  ⟨h.bel, fun p hp => h.all p (hs p hp)⟩
theorem PL.add {w0 : World} {bs : List (Nat × Int)} {W : World} (h : PL w0 bs W) {z : Int} {b : Nat} (hb : BB z b W) (hw : w0.heap.size ≤ b) : PL w0 (bs ++ [(b, z)]) W := by
  refine ⟨h.bel, fun p hp => ?_⟩
  rcases List.mem_append.1 hp with hp | hp
  · exact h.all p hp
  · rw [List.mem_singleton] at hp
    subst hp
    exact ⟨hb, hw⟩
theorem PL.made {w0 : World} {bs : List (Nat × Int)} {W : World} (h : PL w0 bs W) {z : Int} {g : Bool} {so : Option Addr} {k c : Nat} (hz : Nu.BigIs z (.agg #[.bool g, .slice so k c]) W) :
    PL w0 (bs ++ [(W.heap.size, z)]) (W.alloc (.cells #[.bool g, .slice so k c] 55)) :=
  (h.next ((Below.refl _ _).alloc (Nat.le_refl _) _)).add (BB.made hz) h.bel.size
theorem PL.set {w0 : World} {bs : List (Nat × Int)} {W : World} (h : PL w0 bs W) {B : Nat} {z : Int} {g g' : Bool} {so s' : Option Addr} {k c k' c' : Nat} (hB : W.heap[B]? = some (.cells #[.bool g, .slice so k c] 55 (0, 0))) (hw : w0.heap.size ≤ B)
    (hz : Nu.BigIs z (.agg #[.bool g', .slice s' k' c']) W) (cs : List (Nat × Int)) (hs : ∀ p ∈ cs, p = (B, z) ∨ (p ∈ bs ∧ p.1 ≠ B)) :
    PL w0 cs ((W.setCell ⟨B, 0, none⟩ (.bool g')).setCell ⟨B, 1, none⟩ (.slice s' k' c')) := by
  refine ⟨(h.bel.setCell (p := ⟨B, 0, none⟩) hw _).setCell (p := ⟨B, 1, none⟩) hw _, fun p hp => ?_⟩
  rcases hs p hp with rfl | ⟨h1, h2⟩
  · exact ⟨BB.set hB hz, hw⟩
  · exact ⟨(h.all p h1).1.put hB h2, (h.all p h1).2⟩
theorem zero_big (W : World) : Nu.BigIs 0 (.agg #[.bool false, .slice none 0 0]) W := by
  refine ⟨.slice none 0 0, by simp, none, 0, ?_, ?_, ⟨fun h => ?_, fun a e => by cases e⟩⟩
  · have : Nu.dg (0 : Int).natAbs = [] := by rw [Nu.dg_nil_iff]; rfl
    rw [this]; rfl
  · have : Nu.dg (0 : Int).natAbs = [] := by rw [Nu.dg_nil_iff]; rfl
    rw [this]; exact Nat.le_refl _
  · exfalso
    have : Nu.dg (0 : Int).natAbs = [] := by rw [Nu.dg_nil_iff]; rfl
    rw [this] at h
    exact absurd h (by simp [Nu.us])
theorem big_form {z : Int} {v : Value} {W : World} (h : Nu.BigIs z v W) : ∃ g so k c, v = .agg #[.bool g, .slice so k c] := by
  obtain ⟨m, rfl, ao, cap, rfl, _⟩ := h
  exact ⟨_, _, _, _, rfl⟩
theorem two_free {w : World} {k : Nat} {c0 c1 : Value} {t : TypeId} (h : w.heap[k]? = some (.cells #[c0, c1] t (0, 0))) : (w.cell? ⟨k, 0, none⟩ = some c0 ∧ w.cell? ⟨k, 1, none⟩ = some c1) ∧ (w.frozen? ⟨k, 0, none⟩ = false ∧ w.frozen? ⟨k, 1, none⟩ = false) :=
  ⟨⟨cell_blk h 0, cell_blk h 1⟩, free_blk h 0, free_blk h 1⟩
end Go.Proofs.Ythodlkacfcnhnaa
