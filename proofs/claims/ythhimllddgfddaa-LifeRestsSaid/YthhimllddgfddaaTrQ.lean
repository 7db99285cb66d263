/- Trees as lists of nodes among the arguments: opened. Conditions: those written at each theorem. -/
import Derived.Test.YthhimllddgfddaaRows
import Derived.Test.YthhimllddgfddaaPost
import Derived.Test.YthhimllddgfddaaArgs
import Derived.Test.YthhimllddgfddaaTrA
import Derived.Test.YthhimllddgfddaaOpF
import Derived.Lib.SmallJoins
import Derived.ChangeSlices
import Derived.OpenShut
namespace Go.Proofs.Ythhimllddgfddaa
open Go.ChangeShapes Go.WideShapes Go.RowKit Go.Deep Go.WideElems Go.Maps
def InR (x : Int) : Prop := -9223372036854775808 ≤ x ∧ x ≤ 9223372036854775807
theorem inr_of {x : Int} (h : (Lit.int .i64 x).wf = true) : InR x := by
  simp [Lit.wf, IntKind.min, IntKind.max, IntKind.bits, IntKind.signed] at h
  exact ⟨by omega, by omega⟩
theorem choose_to {α : Type} {n : Nat} {p : Nat → α → Prop} (h : ∀ i, i < n → ∃ x, p i x) (x0 : α) : ∃ f : Nat → α, ∀ i, i < n → p i (f i) := by
  classical
  refine ⟨fun i => if hi : i < n then (h i hi).choose else x0, fun i hi => ?_⟩
  simp only [hi, dif_pos]
  exact (h i hi).choose_spec
/-- Ints in memory below a block. -/
structure VAt (B : Nat) (ao : Option Addr) (l : List Value) (w : World) : Prop where
  there : 0 < l.length → ∃ a, ao = some a
  cells : ∀ a, ao = some a → 0 < l.length → a.block < B ∧ ∀ (i : Nat) x, l[i]? = some x → w.cell? (a.add i) = some x
theorem VAt.under {B : Nat} {ao : Option Addr} {l : List Value} {w w' : World} (h : VAt B ao l w) (k : Below B w w') : VAt B ao l w' :=
  ⟨h.there, fun a e hp => ⟨(h.cells a e hp).1, fun i x hi => (k.cell (p := a.add i) (by
    rw [add_block]; exact (h.cells a e hp).1)).trans ((h.cells a e hp).2 i x hi)⟩⟩
/-- An expression's node, as data. -/
structure Lf where
  op : Int
  n : Int
  nm : ByteArray
  kids : List Int
/-- A term's node, as data. -/
structure Kn where
  op : Int
  nm : ByteArray
  exprs : List Int
  terms : List Int
def ivs (l : List Int) : List Value := l.map (Value.int .i64)
/-- Nodes in memory below a block. -/
structure LfAt (B : Nat) (ao : Option Addr) (l : List Lf) (w : World) : Prop where
  there : 0 < l.length → ∃ a, ao = some a
  cells : ∀ a, ao = some a → 0 < l.length → a.block < B ∧ ∀ (i : Nat) x, l[i]? = some x → ∃ bo k, x.kids.length ≤ k ∧ k ≤ maxLen ∧ FourX w (a.add (i * 4)) (.int .i64 x.op) (.int .i64 x.n) (.string x.nm) (.slice bo x.kids.length k) ∧ VAt B bo (ivs x.kids) w
structure KnAt (B : Nat) (ao : Option Addr) (l : List Kn) (w : World) : Prop where
  there : 0 < l.length → ∃ a, ao = some a
  cells : ∀ a, ao = some a → 0 < l.length → a.block < B ∧ ∀ (i : Nat) x, l[i]? = some x → ∃ bo k co m, (x.exprs.length ≤ k ∧ k ≤ maxLen) ∧ (x.terms.length ≤ m ∧ m ≤ maxLen) ∧ FourX w (a.add (i * 4)) (.int .i64 x.op) (.string x.nm) (.slice bo x.exprs.length k) (.slice co x.terms.length m) ∧ VAt B bo (ivs x.exprs) w ∧ VAt B co (ivs x.terms) w
theorem FourX.under {B : Nat} {w w' : World} {p : Addr} {v0 v1 v2 v3 : Value} (h : FourX w p v0 v1 v2 v3) (hb : p.block < B) (k : Below B w w') : FourX w' p v0 v1 v2 v3 :=
  ⟨(k.cell (p := p) hb).trans h.1, (k.cell (p := ⟨p.block, p.off + 1, none⟩) hb).trans h.2.1, (k.cell (p := ⟨p.block, p.off + 2, none⟩) hb).trans h.2.2.1, (k.cell (p := ⟨p.block, p.off + 3, none⟩) hb).trans h.2.2.2⟩
theorem LfAt.under {B : Nat} {ao : Option Addr} {l : List Lf} {w w' : World} (h : LfAt B ao l w) (k : Below B w w') : LfAt B ao l w' :=
  ⟨h.there, fun a e hp => ⟨(h.cells a e hp).1, fun i x hi => by
    obtain ⟨bo, m, h1, h2, h3, h4⟩ := (h.cells a e hp).2 i x hi
    exact ⟨bo, m, h1, h2, h3.under (by rw [add_block]; exact (h.cells a e hp).1) k, h4.under k⟩⟩⟩
theorem KnAt.under {B : Nat} {ao : Option Addr} {l : List Kn} {w w' : World} (h : KnAt B ao l w) (k : Below B w w') : KnAt B ao l w' :=
  ⟨h.there, fun a e hp => ⟨(h.cells a e hp).1, fun i x hi => by
    obtain ⟨bo, m, co, n, h1, h2, h3, h4, h5⟩ := (h.cells a e hp).2 i x hi
    exact ⟨bo, m, co, n, h1, h2, h3.under (by rw [add_block]; exact (h.cells a e hp).1) k, h4.under k, h5.under k⟩⟩⟩
set_option maxRecDepth 100000 in
theorem ints_cells {H : Type} {enc : TypeId × Value → H} {W : World} {v : Value} {fuel : Nat} {y : DataW H × List MemPlace}
    (hf : DataW.trod enc Try.prog W 0 (fun _ => true) true fuel 56 [v] = some y) :
    ∃ ao cap, ∃ xs : List Int, v = .slice ao xs.length cap ∧ xs.length ≤ cap ∧ cap ≤ maxLen ∧ (∀ x ∈ xs, InR x) ∧ VAt W.heap.size ao (xs.map (Value.int .i64)) W := by
  obtain ⟨d, ps⟩ := y
  rcases open_ints Try.underlying56 Try.underlying3 (by kernel_rfl) hf with ⟨hcs, hx⟩ | ⟨a, len, cap, ss, hcs, _, hl, hm, hz, hx, hcell, hsz⟩
  · simp at hcs
    subst hcs
    exact ⟨none, 0, [], rfl, by simp, by unfold maxLen; omega, by simp, ⟨fun hp => by simp at hp, fun a e => by cases e⟩⟩
  · simp at hcs
    subst hcs
    simp only [if_true] at hz
    have htl : (ss.take len).length = len := by rw [List.length_take]; omega
    refine ⟨some a, cap, ss.take len, by rw [htl], by rw [htl]; exact hl, hm, fun x hx => ?_, ⟨fun _ => ⟨a, rfl⟩, fun b e hp => ?_⟩⟩
    · exact inr_of (hsz x (List.mem_of_mem_take hx))
    cases e
    have hlen : 0 < len := by simp at hp; omega
    refine ⟨?_, fun i u hu => ?_⟩
    · have hc0 := hcell 0 (by omega)
      have := World.block_lt_of_cell? _ _ hc0
      unfold Addr.add at this
      split at this <;> exact this
    · rw [List.getElem?_map] at hu
      obtain ⟨x, hx1, rfl⟩ := Option.map_eq_some_iff.1 hu
      rw [List.getElem?_take] at hx1
      split at hx1
      · rename_i hi
        have hc := hcell i (by omega)
        rw [List.getD_eq_getElem?_getD, hx1] at hc
        exact hc
      · cases hx1
theorem add_next (a : Addr) (i k : Nat) (hk : 0 < k) : (⟨(a.add (i * 4)).block, (a.add (i * 4)).off + k, none⟩ : Addr) = a.add (i * 4 + k) := by unfold Addr.add; split <;> split <;> simp_all <;> omega
set_option maxRecDepth 100000 in
/-- Leaves among the arguments. -/
theorem leaves_open {H : Type} {enc : TypeId × Value → H} {W : World} {base : Nat} {v : Value} {d : DataW H} {ps : List MemPlace} (hval : Value.okWide Try.prog W .any base 22 v)
    (h : DataW.Trod enc Try.prog W 0 (fun _ => true) true 22 v d ps) :
    ∃ ao cap, ∃ xs : List Lf, v = .slice ao xs.length cap ∧ xs.length ≤ cap ∧ cap ≤ maxLen ∧ (∀ x ∈ xs, x.nm.size ≤ maxLen ∧ InR x.op ∧ InR x.n ∧ ∀ k ∈ x.kids, InR k) ∧ LfAt W.heap.size ao xs W := by
  obtain ⟨a0, len0, cap0, rfl⟩ := okWide_slice Try.underlying22 hval
  obtain ⟨fuel, hf⟩ := h
  rcases open_slice_fields Try.underlying22 Try.underlying82 (by kernel_rfl) (by
      intro j f hj
      match j, hj with
      | 0, hj => cases hj; exact ⟨rfl, by kernel_rfl⟩
      | 1, hj => cases hj; exact ⟨rfl, by kernel_rfl⟩
      | 2, hj => cases hj; exact ⟨rfl, by kernel_rfl⟩
      | 3, hj => cases hj; exact ⟨rfl, by kernel_rfl⟩
      | j + 4, hj => simp at hj) hf with hcs | ⟨a, len, cap, hcs, hl, hm, hcell⟩
  · simp [Value.cells] at hcs
    obtain ⟨rfl, rfl, rfl⟩ := hcs
    exact ⟨none, 0, [], rfl, by simp, by unfold maxLen; omega, by simp, ⟨fun hp => by simp at hp, fun a e => by cases e⟩⟩
  · simp [Value.cells] at hcs
    obtain ⟨rfl, rfl, rfl⟩ := hcs
    have each : ∀ i, i < len0 → ∃ q : Lf, (q.nm.size ≤ maxLen ∧ InR q.op ∧ InR q.n ∧ ∀ k ∈ q.kids, InR k) ∧ ∃ bo k, q.kids.length ≤ k ∧ k ≤ maxLen ∧ (W.cell? (a.add (i * 4)) = some (.int .i64 q.op) ∧ W.cell? (a.add (i * 4 + 1)) = some (.int .i64 q.n) ∧ W.cell? (a.add (i * 4 + 2)) = some (.string q.nm) ∧ W.cell? (a.add (i * 4 + 3)) = some (.slice bo q.kids.length k)) ∧ VAt W.heap.size bo (ivs q.kids) W := by
      intro i hi
      obtain ⟨v0, n0, y0, c0, t0⟩ := hcell i hi 0 _ rfl
      obtain ⟨v1, n1, y1, c1, t1⟩ := hcell i hi 1 _ rfl
      obtain ⟨v2, n2, y2, c2, t2⟩ := hcell i hi 2 _ rfl
      obtain ⟨v3, n3, y3, c3, t3⟩ := hcell i hi 3 _ rfl
      obtain ⟨x0, e0, _, w0⟩ := DataW.trod_int Try.underlying3 t0
      obtain ⟨x1, e1, _, w1⟩ := DataW.trod_int Try.underlying2 t1
      obtain ⟨x2, e2, _, w2⟩ := DataW.trod_string Try.underlying9 t2
      obtain ⟨bo, k, ks, rfl, hk1, hk2, hk3, hk4⟩ := ints_cells t3
      simp at e0 e1 e2
      subst e0 e1 e2
      exact ⟨⟨x0, x1, x2, ks⟩, ⟨w2, inr_of w0, inr_of w1, hk3⟩, bo, k, hk1, hk2, ⟨c0, c1, c2, c3⟩, hk4⟩
    obtain ⟨q, hq⟩ := choose_to each ⟨0, 0, ByteArray.empty, []⟩
    refine ⟨some a, cap0, (List.range len0).map q, by simp, by simpa using hl, hm, fun x hx => ?_, ⟨fun _ => ⟨a, rfl⟩, fun b e hp => ?_⟩⟩
    · obtain ⟨i, hi, rfl⟩ := List.mem_map.1 hx
      exact (hq i (List.mem_range.1 hi)).1
    · cases e
      have hlen : 0 < len0 := by simpa using hp
      refine ⟨?_, fun i x hx => ?_⟩
      · obtain ⟨_, _, _, _, _, ⟨c0, _⟩, _⟩ := hq 0 hlen
        have := World.block_lt_of_cell? _ _ c0
        rwa [add_block] at this
      · have hi : i < len0 := by
          rcases Nat.lt_or_ge i len0 with h | h
          · exact h
          · rw [List.getElem?_eq_none (by simpa using h)] at hx; simp at hx
        rw [List.getElem?_map, List.getElem?_range hi] at hx
        cases hx
        obtain ⟨_, bo, k, h1, h2, ⟨c0, c1, c2, c3⟩, h4⟩ := hq i hi
        exact ⟨bo, k, h1, h2, ⟨c0, by rw [add_next _ _ 1 (by omega)]; exact c1, by rw [add_next _ _ 2 (by omega)]; exact c2, by rw [add_next _ _ 3 (by omega)]; exact c3⟩, h4⟩
set_option maxRecDepth 100000 in
/-- Knots among the arguments. -/
theorem knots_open {H : Type} {enc : TypeId × Value → H} {W : World} {base : Nat} {v : Value} {d : DataW H} {ps : List MemPlace} (hval : Value.okWide Try.prog W .any base 23 v)
    (h : DataW.Trod enc Try.prog W 0 (fun _ => true) true 23 v d ps) :
    ∃ ao cap, ∃ xs : List Kn, v = .slice ao xs.length cap ∧ xs.length ≤ cap ∧ cap ≤ maxLen ∧ (∀ x ∈ xs, x.nm.size ≤ maxLen ∧ InR x.op ∧ (∀ k ∈ x.exprs, InR k) ∧ ∀ k ∈ x.terms, InR k) ∧ KnAt W.heap.size ao xs W := by
  obtain ⟨a0, len0, cap0, rfl⟩ := okWide_slice Try.underlying23 hval
  obtain ⟨fuel, hf⟩ := h
  rcases open_slice_fields Try.underlying23 Try.underlying86 (by kernel_rfl) (by
      intro j f hj
      match j, hj with
      | 0, hj => cases hj; exact ⟨rfl, by kernel_rfl⟩
      | 1, hj => cases hj; exact ⟨rfl, by kernel_rfl⟩
      | 2, hj => cases hj; exact ⟨rfl, by kernel_rfl⟩
      | 3, hj => cases hj; exact ⟨rfl, by kernel_rfl⟩
      | j + 4, hj => simp at hj) hf with hcs | ⟨a, len, cap, hcs, hl, hm, hcell⟩
  · simp [Value.cells] at hcs
    obtain ⟨rfl, rfl, rfl⟩ := hcs
    exact ⟨none, 0, [], rfl, by simp, by unfold maxLen; omega, by simp, ⟨fun hp => by simp at hp, fun a e => by cases e⟩⟩
  · simp [Value.cells] at hcs
    obtain ⟨rfl, rfl, rfl⟩ := hcs
    have each : ∀ i, i < len0 → ∃ q : Kn, (q.nm.size ≤ maxLen ∧ InR q.op ∧ (∀ k ∈ q.exprs, InR k) ∧ ∀ k ∈ q.terms, InR k) ∧ ∃ bo k co m, (q.exprs.length ≤ k ∧ k ≤ maxLen) ∧ (q.terms.length ≤ m ∧ m ≤ maxLen) ∧ (W.cell? (a.add (i * 4)) = some (.int .i64 q.op) ∧ W.cell? (a.add (i * 4 + 1)) = some (.string q.nm) ∧ W.cell? (a.add (i * 4 + 2)) = some (.slice bo q.exprs.length k) ∧ W.cell? (a.add (i * 4 + 3)) = some (.slice co q.terms.length m)) ∧ VAt W.heap.size bo (ivs q.exprs) W ∧ VAt W.heap.size co (ivs q.terms) W := by
      intro i hi
      obtain ⟨v0, n0, y0, c0, t0⟩ := hcell i hi 0 _ rfl
      obtain ⟨v1, n1, y1, c1, t1⟩ := hcell i hi 1 _ rfl
      obtain ⟨v2, n2, y2, c2, t2⟩ := hcell i hi 2 _ rfl
      obtain ⟨v3, n3, y3, c3, t3⟩ := hcell i hi 3 _ rfl
      obtain ⟨x0, e0, _, w0⟩ := DataW.trod_int Try.underlying3 t0
      obtain ⟨x1, e1, _, w1⟩ := DataW.trod_string Try.underlying9 t1
      obtain ⟨bo, k, ks, rfl, hk1, hk2, hk3, hk4⟩ := ints_cells t2
      obtain ⟨co, m, ms, rfl, hm1, hm2, hm3, hm4⟩ := ints_cells t3
      simp at e0 e1
      subst e0 e1
      exact ⟨⟨x0, x1, ks, ms⟩, ⟨w1, inr_of w0, hk3, hm3⟩, bo, k, co, m, ⟨hk1, hk2⟩, ⟨hm1, hm2⟩, ⟨c0, c1, c2, c3⟩, hk4, hm4⟩
    obtain ⟨q, hq⟩ := choose_to each ⟨0, ByteArray.empty, [], []⟩
    refine ⟨some a, cap0, (List.range len0).map q, by simp, by simpa using hl, hm, fun x hx => ?_, ⟨fun _ => ⟨a, rfl⟩, fun b e hp => ?_⟩⟩
    · obtain ⟨i, hi, rfl⟩ := List.mem_map.1 hx
      exact (hq i (List.mem_range.1 hi)).1
    · cases e
      have hlen : 0 < len0 := by simpa using hp
      refine ⟨?_, fun i x hx => ?_⟩
      · obtain ⟨_, _, _, _, _, _, _, ⟨c0, _⟩, _⟩ := hq 0 hlen
        have := World.block_lt_of_cell? _ _ c0
        rwa [add_block] at this
      · have hi : i < len0 := by
          rcases Nat.lt_or_ge i len0 with h | h
          · exact h
          · rw [List.getElem?_eq_none (by simpa using h)] at hx; simp at hx
        rw [List.getElem?_map, List.getElem?_range hi] at hx
        cases hx
        obtain ⟨_, bo, k, co, m, h1, h2, ⟨c0, c1, c2, c3⟩, h4, h5⟩ := hq i hi
        exact ⟨bo, k, co, m, h1, h2, ⟨c0, by rw [add_next _ _ 1 (by omega)]; exact c1, by rw [add_next _ _ 2 (by omega)]; exact c2, by rw [add_next _ _ 3 (by omega)]; exact c3⟩, h4, h5⟩
end Go.Proofs.Ythhimllddgfddaa
