/- Trees: one row of the document's Tree grows. Conditions: those written at each theorem. -/
import Derived.Test.YthhimllddgfddaaTrS
namespace Go.Proofs.Ythhimllddgfddaa
open Go.RowKit
set_option linter.unusedVariables false
set_option linter.unusedSimpArgs false
/-- A node more. -/
theorem PB.app0 {W0 : World} {tb : Nat} {D : DB} {vs : List Value} {v : Value} {wr w5 : World} {g' cap : Nat} {x : Xp} {q : Q4} {qs0 : List Q4} (h : PB W0 tb D vs wr) (hi : vs[0]? = some v) (hq0 : qs0.length = D.xs.length) (hf : Fits (QX D.S wr) D.xs qs0) (hx : QX D.S wr x q)
    (hown : Row4 w5 W0.heap.size 53 (.slice (some ⟨g', 0, none⟩) (qs0.length + 1) cap) (qs0 ++ [q])) (hg : wr.grownBy w5 v.ownBlock) (hor : v.ownBlock = some g' ∨ g' = wr.heap.size) (hlt : g' < w5.heap.size) :
    PB W0 tb { D with xs := D.xs ++ [x] } (vs.set 0 (.slice (some ⟨g', 0, none⟩) (qs0.length + 1) cap)) (w5.setCell ⟨tb, 0, none⟩ (.slice (some ⟨g', 0, none⟩) (qs0.length + 1) cap)) := by
  have hvm : v ∈ vs := List.mem_of_getElem? hi
  refine h.turn hi hg (fun g e => by cases e; exact ⟨hor, hlt⟩) rfl (fun j u w hj hu hr => ?_) ?_
  · match j, hj, hr with
    | 0, hj, _ => exact absurd rfl hj
    | 1, _, hr => exact hr
    | 2, _, hr => exact hr
    | 3, _, hr => exact hr
    | 4, _, hr => exact hr
    | _ + 5, _, hr => exact hr
  · refine ⟨qs0 ++ [q], by simp [hq0], hown, (hf.snoc hx).imp fun y p hp => hp.stay (fun _ h => h) fun b hb => ?_⟩
    exact hg.block b (h.set b hb).2.1 (fun e => (h.set b hb).2.2 v hvm e.symm)
/-- A number more, in row 1. -/
theorem PB.app1 {W0 : World} {tb : Nat} {D : DB} {vs : List Value} {v v' : Value} {wr w5 : World} {m : Nat} (h : PB W0 tb D vs wr) (hi : vs[1]? = some v)
    (hown : w5.ownsRow W0.heap.size 3 1 v' (D.ns.length + 1) (nvs D.ns ++ [.int .i64 m])) (hg : wr.grownBy w5 v.ownBlock) (hor : ∀ g, v'.ownBlock = some g → (v.ownBlock = some g ∨ g = wr.heap.size) ∧ g < w5.heap.size) :
    PB W0 tb { D with ns := D.ns ++ [m] } (vs.set 1 v') (w5.setCell ⟨tb, 1, none⟩ v') := by
  refine h.turn hi hg hor rfl (fun j u w hj hu hr => ?_) ?_
  · match j, hj, hr with
    | 0, _, hr => exact hr
    | 1, hj, _ => exact absurd rfl hj
    | 2, _, hr => exact hr
    | 3, _, hr => exact hr
    | 4, _, hr => exact hr
    | _ + 5, _, hr => exact hr
  · show w5.ownsRow _ _ 1 v' (D.ns ++ [m]).length (nvs (D.ns ++ [m]))
    rw [List.length_append, nvs, List.map_append]
    exact hown
theorem PB.app2 {W0 : World} {tb : Nat} {D : DB} {vs : List Value} {v v' : Value} {wr w5 : World} {m : Nat} (h : PB W0 tb D vs wr) (hi : vs[2]? = some v)
    (hown : w5.ownsRow W0.heap.size 3 1 v' (D.ds.length + 1) (nvs D.ds ++ [.int .i64 m])) (hg : wr.grownBy w5 v.ownBlock) (hor : ∀ g, v'.ownBlock = some g → (v.ownBlock = some g ∨ g = wr.heap.size) ∧ g < w5.heap.size) :
    PB W0 tb { D with ds := D.ds ++ [m] } (vs.set 2 v') (w5.setCell ⟨tb, 2, none⟩ v') := by
  refine h.turn hi hg hor rfl (fun j u w hj hu hr => ?_) ?_
  · match j, hj, hr with
    | 0, _, hr => exact hr
    | 1, _, hr => exact hr
    | 2, hj, _ => exact absurd rfl hj
    | 3, _, hr => exact hr
    | 4, _, hr => exact hr
    | _ + 5, _, hr => exact hr
  · show w5.ownsRow _ _ 1 v' (D.ds ++ [m]).length (nvs (D.ds ++ [m]))
    rw [List.length_append, nvs, List.map_append]
    exact hown
/-- The block of a new node's own list is put beside the others. -/
theorem PB.list {W0 W2 : World} {tb : Nat} {D : DB} {vs : List Value} {v : Value} {wr wc : World} {T : TypeId} {qs : List Q4} (h : PB W0 tb D vs wr) (k : PB W0 tb D vs wc) (hr : Row4 wc W2.heap.size T v qs) (hle : wr.heap.size ≤ W2.heap.size) :
    PB W0 tb { D with S := fun b => D.S b ∨ v.ownBlock = some b } vs wc := by
  refine k.wide (fun b hb => .inl hb) fun b hb => ?_
  rcases hb with hb | hb
  · exact k.set b hb
  · have h1 := hr.lt hb
    exact ⟨by have := h.bel.size; omega, h1.1, fun u hu e => by have := (h.own u hu b e).2; omega⟩
theorem intInfoN : (Try.prog.info? 3).map (fun i => (i.zero, i.size, i.bytes)) = some (some (.int .i64 0), 1, 8) := by kernel_rfl
/-- append(l, n), of a number in a new block. -/
theorem wpList_appN {w : World} {ops : Array Oper} {rest : List Oper} {o : Oper} {a : Act} {Q : Exit → Act → World → Prop} (hgd : o.guard = none) (s x : Operand)
    (ho : o.op = .call { callee := .builtin .append, args := #[s, x], argTypes := #[56, 56] })
    (B : Nat) (v : Value) (n : Nat) (vs : List Value) (hs : a.eval s = v) (hown : w.ownsRow B 3 1 v n vs) (g : Nat) (f : Int) (hx : a.eval x = .slice (some ⟨g, 0, none⟩) 1 1)
    (hc : w.heap[g]? = some (.cells #[.int .i64 f] 3 (0, 0))) (hl : n ≤ 1000) (hB : B ≤ w.heap.size)
    (h : ∀ g' cap w', w'.ownsRow B 3 1 (.slice (some ⟨g', 0, none⟩) (n + 1) cap) (n + 1) (vs ++ [.int .i64 f]) → w.grownBy w' v.ownBlock → (v.ownBlock = some g' ∨ g' = w.heap.size) → g' < w'.heap.size → wpList Try.prog ops Q rest (a.put o.dst (.slice (some ⟨g', 0, none⟩) (n + 1) cap)) w') :
    wpList Try.prog ops Q (o :: rest) a w := by
  obtain ⟨i, hi, hz0, hz1, hz2⟩ := info_parts intInfoN
  refine wpList_plain hgd fun _ hK => wp_append_lies w s x 56 ho B 3 i (.int .i64 0) 1 8 Try.underlying56 hi hz0 hz1 hz2 rfl (by decide) v n vs hs hown ⟨g, 0, none⟩ 1 1 [.int .i64 f] hx rfl ?_ ?_ (by decide) ?_ ?_ hB _ rfl ?_
  · intro j u hj
    match j, hj with
    | 0, hj => simp at hj; subst hj; exact cell_blk hc 0
  · intro u hu
    simp at hu
    subst hu
    rfl
  · unfold maxLen; omega
  · omega
  · intro g' cap w' h1 h2 h3 h4
    exact hK _ _ (h g' cap w' h1 h2 h3 h4)
end Go.Proofs.Ythhimllddgfddaa
