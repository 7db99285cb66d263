/- Trees: the rows of terms of the document's Tree grow; a list beside it grows. Conditions: those written at each theorem. -/
import Derived.Test.YthhimllddgfddaaTrU
namespace Go.Proofs.Ythhimllddgfddaa
open Go.RowKit
set_option linter.unusedVariables false
set_option linter.unusedSimpArgs false
/-- A node more. -/
theorem PB.app3 {W0 : World} {tb : Nat} {D : DB} {vs : List Value} {v : Value} {wr w5 : World} {g' cap : Nat} {x : Tr} {q : Q4} {qs0 : List Q4} (h : PB W0 tb D vs wr) (hi : vs[3]? = some v) (hq0 : qs0.length = D.ts.length) (hf : Fits (QT D.S wr) D.ts qs0) (hx : QT D.S wr x q)
    (hown : Row4 w5 W0.heap.size 32 (.slice (some ⟨g', 0, none⟩) (qs0.length + 1) cap) (qs0 ++ [q])) (hg : wr.grownBy w5 v.ownBlock) (hor : v.ownBlock = some g' ∨ g' = wr.heap.size) (hlt : g' < w5.heap.size) :
    PB W0 tb { D with ts := D.ts ++ [x] } (vs.set 3 (.slice (some ⟨g', 0, none⟩) (qs0.length + 1) cap)) (w5.setCell ⟨tb, 3, none⟩ (.slice (some ⟨g', 0, none⟩) (qs0.length + 1) cap)) := by
  have hvm : v ∈ vs := List.mem_of_getElem? hi
  refine h.turn hi hg (fun g e => by cases e; exact ⟨hor, hlt⟩) rfl (fun j u w hj hu hr => ?_) ?_
  · match j, hj, hr with
    | 0, _, hr => exact hr
    | 1, _, hr => exact hr
    | 2, _, hr => exact hr
    | 3, hj, _ => exact absurd rfl hj
    | 4, _, hr => exact hr
    | _ + 5, _, hr => exact hr
  · refine ⟨qs0 ++ [q], by simp [hq0], hown, (hf.snoc hx).imp fun y p hp => hp.stay (fun _ h => h) fun b hb => ?_⟩
    exact hg.block b (h.set b hb).2.1 (fun e => (h.set b hb).2.2 v hvm e.symm)
/-- A number more, in row 4. -/
theorem PB.app4 {W0 : World} {tb : Nat} {D : DB} {vs : List Value} {v v' : Value} {wr w5 : World} {m : Nat} (h : PB W0 tb D vs wr) (hi : vs[4]? = some v)
    (hown : w5.ownsRow W0.heap.size 3 1 v' (D.ms.length + 1) (nvs D.ms ++ [.int .i64 m])) (hg : wr.grownBy w5 v.ownBlock) (hor : ∀ g, v'.ownBlock = some g → (v.ownBlock = some g ∨ g = wr.heap.size) ∧ g < w5.heap.size) :
    PB W0 tb { D with ms := D.ms ++ [m] } (vs.set 4 v') (w5.setCell ⟨tb, 4, none⟩ v') := by
  refine h.turn hi hg hor rfl (fun j u w hj hu hr => ?_) ?_
  · match j, hj, hr with
    | 0, _, hr => exact hr
    | 1, _, hr => exact hr
    | 2, _, hr => exact hr
    | 3, _, hr => exact hr
    | 4, hj, _ => exact absurd rfl hj
    | 5, _, hr => exact hr
    | _ + 6, _, hr => exact hr
  · show w5.ownsRow _ _ 1 v' (D.ms ++ [m]).length (nvs (D.ms ++ [m]))
    rw [List.length_append, nvs, List.map_append]
    exact hown
/-- A number more, in row 5. -/
theorem PB.app5 {W0 : World} {tb : Nat} {D : DB} {vs : List Value} {v v' : Value} {wr w5 : World} {m : Nat} (h : PB W0 tb D vs wr) (hi : vs[5]? = some v) (hlv : vs.length ≤ 6)
    (hown : w5.ownsRow W0.heap.size 3 1 v' (D.es.length + 1) (nvs D.es ++ [.int .i64 m])) (hg : wr.grownBy w5 v.ownBlock) (hor : ∀ g, v'.ownBlock = some g → (v.ownBlock = some g ∨ g = wr.heap.size) ∧ g < w5.heap.size) :
    PB W0 tb { D with es := D.es ++ [m] } (vs.set 5 v') (w5.setCell ⟨tb, 5, none⟩ v') := by
  refine h.turn hi hg hor rfl (fun j u w hj hu hr => ?_) ?_
  · match j, hj, hr with
    | 0, _, hr => exact hr
    | 1, _, hr => exact hr
    | 2, _, hr => exact hr
    | 3, _, hr => exact hr
    | 4, _, hr => exact hr
    | 5, hj, _ => exact absurd rfl hj
    | _ + 6, _, hr => rw [List.getElem?_eq_none (by omega)] at hu; cases hu
  · show w5.ownsRow _ _ 1 v' (D.es ++ [m]).length (nvs (D.es ++ [m]))
    rw [List.length_append, nvs, List.map_append]
    exact hown
/-- Something beside the Tree changes: a box of one's own, and what is made. -/
theorem PB.beside {W0 : World} {tb cb : Nat} {D : DB} {vs : List Value} {wr w' : World} (h : PB W0 tb D vs wr) (k : wr.grownBy w' (some cb)) (hcb : W0.heap.size ≤ cb ∧ ¬ D.S cb ∧ ∀ v ∈ vs, v.ownBlock ≠ some cb) : PB W0 tb D vs w' := by
  have hb : ∀ b, b < wr.heap.size → b ≠ cb → w'.heap[b]? = wr.heap[b]? := fun b hb hne => k.block b hb (fun e => hne (by injection e))
  refine ⟨(hb tb (lt_of_heap h.box) (by have := h.tbl; omega)).trans h.box, fun i v hv => (h.row i v hv).stay (fun g hg => hb g (h.own v (List.mem_of_getElem? hv) g hg).2 (fun e => hcb.2.2 v (List.mem_of_getElem? hv) (by rw [← e]; exact hg))) (fun b hs => hb b (h.set b hs).2.1 (fun e => hcb.2.1 (by rw [← e]; exact hs))), fun b hs => ⟨(h.set b hs).1, Nat.lt_of_lt_of_le (h.set b hs).2.1 k.size, (h.set b hs).2.2⟩, fun v hv g hg => ⟨(h.own v hv g hg).1, Nat.lt_of_lt_of_le (h.own v hv g hg).2 k.size⟩, h.apart, ?_, h.tbl⟩
  exact ⟨k.os.trans h.bel.os, k.tape.trans h.bel.tape, k.output.trans h.bel.output, Nat.le_trans h.bel.size k.size, fun b hs hne => (hb b (Nat.lt_of_lt_of_le hs h.bel.size) (by have := hcb.1; omega)).trans (h.bel.block b hs hne)⟩
/-- A list beside the Tree that grows, in a box's cell. -/
structure IX (W2 : World) (cb ci : Nat) (cs : Array Value) (U : TypeId) (S : Nat → Prop) (ys : List Xp) (va : Option Addr) (vc : Nat) (qs : List Q4) (wi : World) : Prop where
  row : Row4 wi W2.heap.size 53 (.slice va ys.length vc) qs
  fit : Fits (QX S wi) ys qs
  len : qs.length = ys.length
  grow : W2.grownBy wi (some cb)
  box : wi.heap[cb]? = some (.cells (cs.setIfInBounds ci (.slice va ys.length vc)) U (0, 0))
theorem IX.start {W2 : World} {cb ci : Nat} {cs : Array Value} {U : TypeId} {S : Nat → Prop} (h : W2.heap[cb]? = some (.cells (cs.setIfInBounds ci (.slice none 0 0)) U (0, 0))) : IX W2 cb ci cs U S [] none 0 [] W2 :=
  ⟨Row4.nil _ _ _, Fits.nil _, rfl, World.grownBy.refl W2 _, h⟩
theorem IX.next {W2 : World} {cb ci : Nat} {cs : Array Value} {U : TypeId} {S : Nat → Prop} {ys : List Xp} {va : Option Addr} {vc : Nat} {qs : List Q4} {wi w' : World} (h : IX W2 cb ci cs U S ys va vc qs wi) (k : Below wi.heap.size wi w') (hS : ∀ b, S b → b < wi.heap.size) : IX W2 cb ci cs U S ys va vc qs w' :=
  ⟨h.row.stay fun g hg => k.block g (h.row.lt hg).1, h.fit.imp fun x q hq => hq.stay (fun _ h => h) fun b hb => k.block b (hS b hb), h.len, only_below h.grow k, (k.block cb (lt_of_heap h.box)).trans h.box⟩
theorem IX.app {W2 : World} {cb ci : Nat} {cs : Array Value} {U : TypeId} {S : Nat → Prop} {ys : List Xp} {va : Option Addr} {vc : Nat} {qs : List Q4} {wA w5 : World} {x : Xp} {q : Q4} {g' cap : Nat} (h : IX W2 cb ci cs U S ys va vc qs wA) (hx : QX S wA x q) (hS : ∀ b, S b → b < W2.heap.size ∧ b ≠ cb) (hcb : cb < W2.heap.size)
    (hown : Row4 w5 W2.heap.size 53 (.slice (some ⟨g', 0, none⟩) (ys.length + 1) cap) (qs ++ [q])) (hg : wA.grownBy w5 (Value.slice va ys.length vc).ownBlock) (hor : (Value.slice va ys.length vc).ownBlock = some g' ∨ g' = wA.heap.size) :
    IX W2 cb ci cs U S (ys ++ [x]) (some ⟨g', 0, none⟩) cap (qs ++ [q]) (w5.setCell ⟨cb, ci, none⟩ (.slice (some ⟨g', 0, none⟩) (ys.length + 1) cap)) := by
  have hg' : g' ≠ cb := by
    rcases hor with e | e
    · have := (h.row.lt e).2; omega
    · have := h.grow.size; omega
  have hst : ∀ b, b ≠ cb → (w5.setCell ⟨cb, ci, none⟩ (.slice (some ⟨g', 0, none⟩) (ys.length + 1) cap)).heap[b]? = w5.heap[b]? := fun b hb => Below.heap_setCell _ _ _ _ hb
  have hfar : ∀ g, (Value.slice va ys.length vc).ownBlock = some g → W2.heap.size ≤ g := fun g hg => (h.row.lt hg).2
  have hlen : (ys ++ [x]).length = ys.length + 1 := by simp
  refine ⟨?_, ?_, by simp [h.len], ?_, ?_⟩
  · rw [hlen]
    exact hown.stay (fun g hg => by cases hg; exact hst _ hg')
  · refine (h.fit.snoc hx).imp fun y p hp => hp.stay (fun _ h => h) fun b hb => ?_
    have hb2 := hS b hb
    rw [hst b hb2.2]
    refine hg.block b (Nat.lt_of_lt_of_le hb2.1 h.grow.size) fun e => ?_
    have := hfar b e.symm
    omega
  · refine only_set ⟨hg.os.trans h.grow.os, hg.tape.trans h.grow.tape, hg.output.trans h.grow.output, Nat.le_trans h.grow.size hg.size, fun k hk hne => (hg.block k (Nat.lt_of_lt_of_le hk h.grow.size) (fun e => ?_)).trans (h.grow.block k hk hne)⟩
    have := hfar k e.symm
    omega
  · have hb5 : w5.heap[cb]? = some (.cells (cs.setIfInBounds ci (.slice va ys.length vc)) U (0, 0)) := (hg.block cb (Nat.lt_of_lt_of_le hcb h.grow.size) (fun e => by have := hfar cb e.symm; omega)).trans h.box
    rw [heap_set_at (i := ci) _ hb5, hlen]
    simp [Array.setIfInBounds_setIfInBounds]
/-- A list beside the Tree that grows, in a box's cell. -/
structure IT (W2 : World) (cb ci : Nat) (cs : Array Value) (U : TypeId) (S : Nat → Prop) (ys : List Tr) (va : Option Addr) (vc : Nat) (qs : List Q4) (wi : World) : Prop where
  row : Row4 wi W2.heap.size 32 (.slice va ys.length vc) qs
  fit : Fits (QT S wi) ys qs
  len : qs.length = ys.length
  grow : W2.grownBy wi (some cb)
  box : wi.heap[cb]? = some (.cells (cs.setIfInBounds ci (.slice va ys.length vc)) U (0, 0))
theorem IT.start {W2 : World} {cb ci : Nat} {cs : Array Value} {U : TypeId} {S : Nat → Prop} (h : W2.heap[cb]? = some (.cells (cs.setIfInBounds ci (.slice none 0 0)) U (0, 0))) : IT W2 cb ci cs U S [] none 0 [] W2 :=
  ⟨Row4.nil _ _ _, Fits.nil _, rfl, World.grownBy.refl W2 _, h⟩
theorem IT.next {W2 : World} {cb ci : Nat} {cs : Array Value} {U : TypeId} {S : Nat → Prop} {ys : List Tr} {va : Option Addr} {vc : Nat} {qs : List Q4} {wi w' : World} (h : IT W2 cb ci cs U S ys va vc qs wi) (k : Below wi.heap.size wi w') (hS : ∀ b, S b → b < wi.heap.size) : IT W2 cb ci cs U S ys va vc qs w' :=
  ⟨h.row.stay fun g hg => k.block g (h.row.lt hg).1, h.fit.imp fun x q hq => hq.stay (fun _ h => h) fun b hb => k.block b (hS b hb), h.len, only_below h.grow k, (k.block cb (lt_of_heap h.box)).trans h.box⟩
theorem IT.app {W2 : World} {cb ci : Nat} {cs : Array Value} {U : TypeId} {S : Nat → Prop} {ys : List Tr} {va : Option Addr} {vc : Nat} {qs : List Q4} {wA w5 : World} {x : Tr} {q : Q4} {g' cap : Nat} (h : IT W2 cb ci cs U S ys va vc qs wA) (hx : QT S wA x q) (hS : ∀ b, S b → b < W2.heap.size ∧ b ≠ cb) (hcb : cb < W2.heap.size)
    (hown : Row4 w5 W2.heap.size 32 (.slice (some ⟨g', 0, none⟩) (ys.length + 1) cap) (qs ++ [q])) (hg : wA.grownBy w5 (Value.slice va ys.length vc).ownBlock) (hor : (Value.slice va ys.length vc).ownBlock = some g' ∨ g' = wA.heap.size) :
    IT W2 cb ci cs U S (ys ++ [x]) (some ⟨g', 0, none⟩) cap (qs ++ [q]) (w5.setCell ⟨cb, ci, none⟩ (.slice (some ⟨g', 0, none⟩) (ys.length + 1) cap)) := by
  have hg' : g' ≠ cb := by
    rcases hor with e | e
    · have := (h.row.lt e).2; omega
    · have := h.grow.size; omega
  have hst : ∀ b, b ≠ cb → (w5.setCell ⟨cb, ci, none⟩ (.slice (some ⟨g', 0, none⟩) (ys.length + 1) cap)).heap[b]? = w5.heap[b]? := fun b hb => Below.heap_setCell _ _ _ _ hb
  have hfar : ∀ g, (Value.slice va ys.length vc).ownBlock = some g → W2.heap.size ≤ g := fun g hg => (h.row.lt hg).2
  have hlen : (ys ++ [x]).length = ys.length + 1 := by simp
  refine ⟨?_, ?_, by simp [h.len], ?_, ?_⟩
  · rw [hlen]
    exact hown.stay (fun g hg => by cases hg; exact hst _ hg')
  · refine (h.fit.snoc hx).imp fun y p hp => hp.stay (fun _ h => h) fun b hb => ?_
    have hb2 := hS b hb
    rw [hst b hb2.2]
    refine hg.block b (Nat.lt_of_lt_of_le hb2.1 h.grow.size) fun e => ?_
    have := hfar b e.symm
    omega
  · refine only_set ⟨hg.os.trans h.grow.os, hg.tape.trans h.grow.tape, hg.output.trans h.grow.output, Nat.le_trans h.grow.size hg.size, fun k hk hne => (hg.block k (Nat.lt_of_lt_of_le hk h.grow.size) (fun e => ?_)).trans (h.grow.block k hk hne)⟩
    have := hfar k e.symm
    omega
  · have hb5 : w5.heap[cb]? = some (.cells (cs.setIfInBounds ci (.slice va ys.length vc)) U (0, 0)) := (hg.block cb (Nat.lt_of_lt_of_le hcb h.grow.size) (fun e => by have := hfar cb e.symm; omega)).trans h.box
    rw [heap_set_at (i := ci) _ hb5, hlen]
    simp [Array.setIfInBounds_setIfInBounds]
theorem nvs_len (l : List Nat) : (nvs l).length = l.length := by simp [nvs]
/-- Numbers in memory, in blocks of R. -/
def NAt (R : Nat → Prop) (ao : Option Addr) (l : List Nat) (w : World) : Prop := l ≠ [] → ∃ a, ao = some a ∧ R a.block ∧ ∀ (i : Nat) x, l[i]? = some x → w.cell? (a.add i) = some (.int .i64 (x : Nat))
theorem NAt.stay {R T : Nat → Prop} {w w' : World} {l : List Nat} {ao : Option Addr} (h : NAt R ao l w) (hT : ∀ b, R b → T b) (hS : ∀ b, R b → w'.heap[b]? = w.heap[b]?) : NAt T ao l w' := by
  intro hl
  obtain ⟨a, h1, h2, h3⟩ := h hl
  exact ⟨a, h1, hT _ h2, fun i x hx => (cell_heap (a := a.add i) (by rw [add_block]; exact hS _ h2)).trans (h3 i x hx)⟩
theorem nvs_at {R : Nat → Prop} {w : World} {B : Nat} {T : TypeId} {v : Value} {l : List Nat} (h : w.ownsRow B T 1 v l.length (nvs l)) (hR : ∀ g, v.ownBlock = some g → R g) : ∃ a c, v = .slice a l.length c ∧ l.length ≤ c ∧ NAt R a l w := by
  rcases h.2 with ⟨rfl, h0⟩ | ⟨g, cap, cur, rfl, hb, hg, hc, hm, hsz, htk⟩
  · refine ⟨none, 0, by rw [h0], by omega, fun hl => ?_⟩
    cases l with
    | nil => exact absurd rfl hl
    | cons a t => simp at h0
  · refine ⟨_, _, rfl, hc, fun _ => ⟨_, rfl, hR g rfl, fun i x hx => ?_⟩⟩
    have hi := (List.getElem?_eq_some_iff.1 hx).1
    have ea : (⟨g, 0, none⟩ : Addr).add i = ⟨g, i, none⟩ := by unfold Addr.add; split <;> simp_all
    rw [ea, cell_blk hg, ← Array.getElem?_toList]
    have hv : (nvs l)[i]? = some (.int .i64 x) := by simp [nvs, hx]
    rw [← hv, ← htk, List.getElem?_take, if_pos]
    omega
/-- A Tree in memory. -/
structure BuiltAt (R : Nat → Prop) (xs : List Xp) (ts : List Tr) (a0 a1 a2 a3 a4 a5 : Option Addr) (w : World) : Prop where
  exprs : ExL R w xs a0
  nodes : NAt R a1 (xs.map Xp.tN) w
  depth : NAt R a2 (xs.map Xp.tD) w
  terms : TrL R w ts a3
  much : NAt R a4 (ts.map Tr.tN) w
  deep : NAt R a5 (ts.map Tr.tD) w
theorem BuiltAt.stay {R T : Nat → Prop} {xs : List Xp} {ts : List Tr} {a0 a1 a2 a3 a4 a5 : Option Addr} {w w' : World} (h : BuiltAt R xs ts a0 a1 a2 a3 a4 a5 w) (hT : ∀ b, R b → T b) (hS : ∀ b, R b → w'.heap[b]? = w.heap[b]?) : BuiltAt T xs ts a0 a1 a2 a3 a4 a5 w' :=
  ⟨h.exprs.stay hT hS, h.nodes.stay hT hS, h.depth.stay hT hS, h.terms.stay hT hS, h.much.stay hT hS, h.deep.stay hT hS⟩
abbrev treeV (xs : List Xp) (ts : List Tr) (a0 a1 a2 a3 a4 a5 : Option Addr) (c0 c1 c2 c3 c4 c5 : Nat) : Value := .agg #[.slice a0 xs.length c0, .slice a1 xs.length c1, .slice a2 xs.length c2, .slice a3 ts.length c3, .slice a4 ts.length c4, .slice a5 ts.length c5]
/-- What Build gives. -/
def BuildP (w : World) (xs : List Xp) (ts : List Tr) (e : Ending) (w' : World) : Prop := ∃ R a0 a1 a2 a3 a4 a5 c0 c1 c2 c3 c4 c5, e = .returned (treeV xs ts a0 a1 a2 a3 a4 a5 c0 c1 c2 c3 c4 c5) ∧ BuiltAt R xs ts a0 a1 a2 a3 a4 a5 w' ∧ (∀ b, R b → w.heap.size ≤ b ∧ b < w'.heap.size) ∧ (xs.length ≤ c0 ∧ xs.length ≤ c1 ∧ xs.length ≤ c2 ∧ ts.length ≤ c3 ∧ ts.length ≤ c4 ∧ ts.length ≤ c5) ∧ Below w.heap.size w w'
theorem pb_end {W0 : World} {tb : Nat} {S : Nat → Prop} {xs : List Xp} {ts : List Tr} {v0 v1 v2 v3 v4 v5 : Value} {wr : World} (h : PB W0 tb ⟨S, xs, xs.map Xp.tN, xs.map Xp.tD, ts, ts.map Tr.tN, ts.map Tr.tD⟩ [v0, v1, v2, v3, v4, v5] wr) :
    ∃ R a0 a1 a2 a3 a4 a5 c0 c1 c2 c3 c4 c5, (v0 = .slice a0 xs.length c0 ∧ v1 = .slice a1 xs.length c1 ∧ v2 = .slice a2 xs.length c2 ∧ v3 = .slice a3 ts.length c3 ∧ v4 = .slice a4 ts.length c4 ∧ v5 = .slice a5 ts.length c5) ∧ BuiltAt R xs ts a0 a1 a2 a3 a4 a5 wr ∧ (∀ b, R b → W0.heap.size ≤ b ∧ b < wr.heap.size) ∧ (xs.length ≤ c0 ∧ xs.length ≤ c1 ∧ xs.length ≤ c2 ∧ ts.length ≤ c3 ∧ ts.length ≤ c4 ∧ ts.length ≤ c5) := by
  have hm : ∀ (i : Nat) (v : Value), ([v0, v1, v2, v3, v4, v5] : List Value)[i]? = some v → ∀ g, v.ownBlock = some g → (fun b => S b ∨ ∃ v ∈ ([v0, v1, v2, v3, v4, v5] : List Value), v.ownBlock = some b) g := fun i v hv g hg => .inr ⟨v, List.mem_of_getElem? hv, hg⟩
  obtain ⟨q0, k0, r0, f0⟩ := h.row 0 v0 rfl
  obtain ⟨q3, k3, r3, f3⟩ := h.row 3 v3 rfl
  obtain ⟨a0, c0, e0, l0⟩ := r0.form
  obtain ⟨a3, c3, e3, l3⟩ := r3.form
  dsimp only at k0 k3
  have h1 := h.row 1 v1 rfl
  have h2 := h.row 2 v2 rfl
  have h4 := h.row 4 v4 rfl
  have h5 := h.row 5 v5 rfl
  obtain ⟨a1, c1, e1, l1, n1⟩ := nvs_at h1 (hm 1 v1 rfl)
  obtain ⟨a2, c2, e2, l2, n2⟩ := nvs_at h2 (hm 2 v2 rfl)
  obtain ⟨a4, c4, e4, l4, n4⟩ := nvs_at h4 (hm 4 v4 rfl)
  obtain ⟨a5, c5, e5, l5, n5⟩ := nvs_at h5 (hm 5 v5 rfl)
  dsimp only at e1 l1 n1 e2 l2 n2 e4 l4 n4 e5 l5 n5
  rw [List.length_map] at e1 l1 e2 l2 e4 l4 e5 l5
  rw [k0] at e0 l0
  rw [k3] at e3 l3
  refine ⟨fun b => S b ∨ ∃ v ∈ ([v0, v1, v2, v3, v4, v5] : List Value), v.ownBlock = some b, a0, a1, a2, a3, a4, a5, c0, c1, c2, c3, c4, c5, ⟨e0, e1, e2, e3, e4, e5⟩, ⟨?_, n1, n2, ?_, n4, n5⟩, ?_, l0, l1, l2, l3, l4, l5⟩
  · rw [e0] at r0
    refine (r0.toX f0).stay (fun b hb => ?_) (fun _ _ => rfl)
    rcases hb with hb | hb
    · exact .inl hb
    · exact hm 0 v0 rfl b (by rw [e0]; exact hb)
  · rw [e3] at r3
    refine (r3.toT f3).stay (fun b hb => ?_) (fun _ _ => rfl)
    rcases hb with hb | hb
    · exact .inl hb
    · exact hm 3 v3 rfl b (by rw [e3]; exact hb)
  · rintro b (hb | ⟨v, hv, hb⟩)
    · exact ⟨(h.set b hb).1, (h.set b hb).2.1⟩
    · exact h.own v hv b hb
theorem six_set (wr : World) (rb : Nat) (x0 x1 x2 x3 x4 x5 : Value) : ∀ W, ((((((wr.setCell ⟨rb, 0, none⟩ x0).setCell ⟨rb, 1, none⟩ x1).setCell ⟨rb, 2, none⟩ x2).setCell ⟨rb, 3, none⟩ x3).setCell ⟨rb, 4, none⟩ x4).setCell ⟨rb, 5, none⟩ x5) = W → (∀ b, b ≠ rb → W.heap[b]? = wr.heap[b]?) ∧ W.heap.size = wr.heap.size ∧ ∀ (B : Nat) (w0 : World), B ≤ rb → Below B w0 wr → Below B w0 W := by
  rintro W rfl
  refine ⟨fun b hb => ?_, by simp, fun B w0 hB h => ?_⟩
  · exact (Below.heap_setCell _ _ _ _ hb).trans ((Below.heap_setCell _ _ _ _ hb).trans ((Below.heap_setCell _ _ _ _ hb).trans ((Below.heap_setCell _ _ _ _ hb).trans ((Below.heap_setCell _ _ _ _ hb).trans (Below.heap_setCell _ _ _ _ hb)))))
  · exact (((((h.setCell (p := ⟨rb, 0, none⟩) hB _).setCell (p := ⟨rb, 1, none⟩) hB _).setCell (p := ⟨rb, 2, none⟩) hB _).setCell (p := ⟨rb, 3, none⟩) hB _).setCell (p := ⟨rb, 4, none⟩) hB _).setCell (p := ⟨rb, 5, none⟩) hB _
end Go.Proofs.Ythhimllddgfddaa
