/- Trees: what the document holds while it builds them. Conditions: those written at each theorem. -/
import Derived.Test.YthhimllddgfddaaTrR
namespace Go.Proofs.Ythhimllddgfddaa
open Go.RowKit
set_option linter.unusedVariables false
set_option linter.unusedSimpArgs false
def nvs (l : List Nat) : List Value := l.map fun (n : Nat) => Value.int .i64 (n : Int)
/-- The six lists of a tree that is built. -/
structure DB where
  S : Nat → Prop
  xs : List Xp
  ns : List Nat
  ds : List Nat
  ts : List Tr
  ms : List Nat
  es : List Nat
def RB (B : Nat) (D : DB) (i : Nat) (v : Value) (w : World) : Prop :=
  match i with
  | 0 => ∃ qs, qs.length = D.xs.length ∧ Row4 w B 53 v qs ∧ Fits (QX D.S w) D.xs qs
  | 1 => w.ownsRow B 3 1 v D.ns.length (nvs D.ns)
  | 2 => w.ownsRow B 3 1 v D.ds.length (nvs D.ds)
  | 3 => ∃ qs, qs.length = D.ts.length ∧ Row4 w B 32 v qs ∧ Fits (QT D.S w) D.ts qs
  | 4 => w.ownsRow B 3 1 v D.ms.length (nvs D.ms)
  | _ => w.ownsRow B 3 1 v D.es.length (nvs D.es)
theorem RB.stay {B : Nat} {D : DB} {i : Nat} {v : Value} {w w' : World} (h : RB B D i v w) (hg : ∀ g, v.ownBlock = some g → w'.heap[g]? = w.heap[g]?) (hS : ∀ b, D.S b → w'.heap[b]? = w.heap[b]?) : RB B D i v w' := by
  unfold RB at h ⊢
  split at h
  · obtain ⟨qs, h0, h1, h2⟩ := h
    exact ⟨qs, h0, h1.stay hg, h2.imp fun x q hq => hq.stay (fun _ h => h) hS⟩
  · exact row_stay h hg
  · exact row_stay h hg
  · obtain ⟨qs, h0, h1, h2⟩ := h
    exact ⟨qs, h0, h1.stay hg, h2.imp fun x q hq => hq.stay (fun _ h => h) hS⟩
  · exact row_stay h hg
  · exact row_stay h hg
/-- A set of blocks more. -/
theorem RB.wide {B : Nat} {D : DB} {S' : Nat → Prop} {i : Nat} {v : Value} {w : World} (h : RB B D i v w) (hS : ∀ b, D.S b → S' b) : RB B { D with S := S' } i v w := by
  unfold RB at h ⊢
  split at h
  · obtain ⟨qs, h0, h1, h2⟩ := h
    exact ⟨qs, h0, h1, h2.imp fun x q hq => hq.stay hS (fun _ _ => rfl)⟩
  · exact h
  · exact h
  · obtain ⟨qs, h0, h1, h2⟩ := h
    exact ⟨qs, h0, h1, h2.imp fun x q hq => hq.stay hS (fun _ _ => rfl)⟩
  · exact h
  · exact h
structure PB (W0 : World) (tb : Nat) (D : DB) (vs : List Value) (wr : World) : Prop where
  box : wr.heap[tb]? = some (.cells vs.toArray 58 (0, 0))
  row : ∀ (i : Nat) (v : Value), vs[i]? = some v → RB W0.heap.size D i v wr
  set : ∀ b, D.S b → W0.heap.size ≤ b ∧ b < wr.heap.size ∧ ∀ v ∈ vs, v.ownBlock ≠ some b
  own : ∀ v ∈ vs, ∀ g, v.ownBlock = some g → W0.heap.size ≤ g ∧ g < wr.heap.size
  apart : ∀ (i j : Nat) (a b : Value) (g : Nat), vs[i]? = some a → vs[j]? = some b → i ≠ j → a.ownBlock = some g → b.ownBlock ≠ some g
  bel : W0.grownBy wr (some tb)
  tbl : tb < W0.heap.size
theorem PB.next {W0 : World} {tb : Nat} {D : DB} {vs : List Value} {wr w' : World} (h : PB W0 tb D vs wr) (k : Below wr.heap.size wr w') : PB W0 tb D vs w' :=
  ⟨(k.block tb (lt_of_heap h.box)).trans h.box, fun i v hv => (h.row i v hv).stay (fun g hg => k.block g (h.own v (List.mem_of_getElem? hv) g hg).2) (fun b hb => k.block b (h.set b hb).2.1), fun b hb => ⟨(h.set b hb).1, Nat.lt_of_lt_of_le (h.set b hb).2.1 k.size, (h.set b hb).2.2⟩, fun v hv g hg => ⟨(h.own v hv g hg).1, Nat.lt_of_lt_of_le (h.own v hv g hg).2 k.size⟩, h.apart, only_below h.bel k, h.tbl⟩
theorem PB.wide {W0 : World} {tb : Nat} {D : DB} {S' : Nat → Prop} {vs : List Value} {wr : World} (h : PB W0 tb D vs wr) (hS : ∀ b, D.S b → S' b) (hset : ∀ b, S' b → W0.heap.size ≤ b ∧ b < wr.heap.size ∧ ∀ v ∈ vs, v.ownBlock ≠ some b) : PB W0 tb { D with S := S' } vs wr :=
  ⟨h.box, fun i v hv => (h.row i v hv).wide hS, hset, h.own, h.apart, h.bel, h.tbl⟩
/-- One row grows, and the box holds it. -/
theorem PB.turn {W0 : World} {tb i : Nat} {D D' : DB} {vs : List Value} {v v' : Value} {wr w5 : World} (h : PB W0 tb D vs wr) (hi : vs[i]? = some v) (hg : wr.grownBy w5 v.ownBlock)
    (hor : ∀ g, v'.ownBlock = some g → (v.ownBlock = some g ∨ g = wr.heap.size) ∧ g < w5.heap.size) (hS : D'.S = D.S) (hR : ∀ j u w, j ≠ i → vs[j]? = some u → RB W0.heap.size D j u w → RB W0.heap.size D' j u w)
    (hrow : RB W0.heap.size D' i v' w5) : PB W0 tb D' (vs.set i v') (w5.setCell ⟨tb, i, none⟩ v') := by
  have hil : i < vs.length := (List.getElem?_eq_some_iff.1 hi).1
  have hvm : v ∈ vs := List.mem_of_getElem? hi
  have htbs : tb < wr.heap.size := lt_of_heap h.box
  have hvt : ∀ u ∈ vs, u.ownBlock ≠ some tb := fun u hu e => by have := (h.own u hu tb e).1; have := h.tbl; omega
  have hsz : (w5.setCell ⟨tb, i, none⟩ v').heap.size = w5.heap.size := by simp
  have hfar : ∀ b, b ≠ tb → (w5.setCell ⟨tb, i, none⟩ v').heap[b]? = w5.heap[b]? := fun b hb => Below.heap_setCell _ _ _ _ hb
  have h5 : ∀ b, b < wr.heap.size → v.ownBlock ≠ some b → w5.heap[b]? = wr.heap[b]? := fun b hb hne => hg.block b hb (fun e => hne e.symm)
  have hv't : ∀ g, v'.ownBlock = some g → g ≠ tb ∧ W0.heap.size ≤ g := by
    intro g hg'
    rcases (hor g hg').1 with h1 | h1
    · have := (h.own v hvm g h1).1; have := h.tbl; omega
    · have := h.tbl; have := h.bel.size; omega
  have hold : ∀ j u, j ≠ i → vs[j]? = some u → ∀ g, u.ownBlock = some g → v'.ownBlock ≠ some g := by
    intro j u hj hu g hg1 hg2
    rcases (hor g hg2).1 with h1 | h1
    · exact h.apart j i u v g hu hi hj hg1 h1
    · have := (h.own u (List.mem_of_getElem? hu) g hg1).2; omega
  have hget : ∀ j u, (vs.set i v')[j]? = some u → (j = i ∧ u = v') ∨ (j ≠ i ∧ vs[j]? = some u) := by
    intro j u hu
    by_cases hj : j = i
    · subst hj; rw [List.getElem?_set_self hil] at hu; injection hu with hu; exact .inl ⟨rfl, hu.symm⟩
    · rw [List.getElem?_set_ne (Ne.symm hj)] at hu; exact .inr ⟨hj, hu⟩
  have hmem : ∀ u ∈ vs.set i v', u = v' ∨ ∃ j, j ≠ i ∧ vs[j]? = some u := by
    intro u hu
    obtain ⟨j, hj⟩ := List.mem_iff_getElem?.1 hu
    rcases hget j u hj with ⟨_, h⟩ | h
    · exact .inl h
    · exact .inr ⟨j, h⟩
  have hSb : ∀ b, D.S b → v'.ownBlock ≠ some b := by
    intro b hb e
    have hs := h.set b hb
    rcases (hor b e).1 with h1 | h1
    · exact hs.2.2 v hvm h1
    · omega
  refine ⟨?_, ?_, ?_, ?_, ?_, ?_, h.tbl⟩
  · have hb5 : w5.heap[tb]? = some (.cells vs.toArray 58 (0, 0)) := (h5 tb htbs (hvt v hvm)).trans h.box
    have := heap_set_at (i := i) v' hb5
    rw [this]
    simp
  · intro j u hu
    rcases hget j u hu with ⟨rfl, rfl⟩ | ⟨hj, hu⟩
    · exact hrow.stay (fun g hg1 => hfar g (hv't g hg1).1) (fun b hb => hfar b (by rw [hS] at hb; have := (h.set b hb).1; have := h.tbl; omega))
    · refine hR j u _ hj hu ((h.row j u hu).stay (fun g hg1 => ?_) (fun b hb => ?_))
      · have hgo := h.own u (List.mem_of_getElem? hu) g hg1
        exact (hfar g (by have := h.tbl; omega)).trans (h5 g hgo.2 (fun e => h.apart i j v u g hi hu (Ne.symm hj) e hg1))
      · have hs := h.set b hb
        exact (hfar b (by have := h.tbl; omega)).trans (h5 b hs.2.1 (hs.2.2 v hvm))
  · intro b hb
    rw [hS] at hb
    have hs := h.set b hb
    refine ⟨hs.1, by rw [hsz]; exact Nat.lt_of_lt_of_le hs.2.1 hg.size, fun u hu => ?_⟩
    rcases hmem u hu with rfl | ⟨j, hj, hu⟩
    · exact hSb b hb
    · exact hs.2.2 u (List.mem_of_getElem? hu)
  · intro u hu g hg1
    rcases hmem u hu with rfl | ⟨j, hj, hu⟩
    · exact ⟨(hv't g hg1).2, by rw [hsz]; exact (hor g hg1).2⟩
    · have := h.own u (List.mem_of_getElem? hu) g hg1
      exact ⟨this.1, by rw [hsz]; exact Nat.lt_of_lt_of_le this.2 hg.size⟩
  · intro j k a b g ha hb hjk hga hgb
    rcases hget j a ha with ⟨hj1, ha1⟩ | ⟨hj1, ha1⟩
    · rcases hget k b hb with ⟨hk1, _⟩ | ⟨hk1, hb1⟩
      · exact hjk (hj1.trans hk1.symm)
      · exact hold k b hk1 hb1 g hgb (by rw [← ha1]; exact hga)
    · rcases hget k b hb with ⟨hk1, hb1⟩ | ⟨hk1, hb1⟩
      · exact hold j a hj1 ha1 g hga (by rw [← hb1]; exact hgb)
      · exact h.apart j k a b g ha1 hb1 hjk hga hgb
  · refine only_set ⟨hg.os.trans h.bel.os, hg.tape.trans h.bel.tape, hg.output.trans h.bel.output, Nat.le_trans h.bel.size hg.size, fun k hk hne => (hg.block k (Nat.lt_of_lt_of_le hk h.bel.size) (fun e => ?_)).trans (h.bel.block k hk hne)⟩
    have := (h.own v hvm k e.symm).1
    omega
end Go.Proofs.Ythhimllddgfddaa
