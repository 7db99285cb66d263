/- The document's Decode: what its walk keeps, and the appends of its lists. Conditions: those written at each theorem. -/
import Derived.Test.YtchflkibbdfeaaaEdS
import Derived.Deep.AppendLies
namespace Go.Proofs.Ytchflkibbdfeaaa
open Go.RowKit Go.Sort
set_option linter.unusedVariables false
set_option linter.unusedSimpArgs false
theorem Pt.drew {b : Nat} {σ : Option (List UInt8)} {w : World} (h : Pt b σ w) : Pt b σ w.drew := h.under rfl
theorem pt_sig (b : Nat) (σ : Option (List UInt8)) : ∃ g : Nat, (∀ W, Pt b σ W → Calls Try.prog 38 #[.pointer (some ⟨b, 0, none⟩)] W fun e w' => e = .returned (.int .u64 g) ∧ Pt b (sS σ).2 w' ∧ W.grownBy w' (some b)) ∧ ((∀ L, σ = some L → L.length ≤ maxLen) → ∀ W, Calls Try.prog 37 #[.int .u64 g] W fun e w' => e = .returned (.int .i64 (sS σ).1) ∧ W = w') := by
  refine ⟨(sG σ).1, fun W h => ?_, fun h W => ?_⟩
  · rw [sS_sG]
    exact pt_group h
  · rw [sS_sG]
    exact num_any _ (sI_low h).2.2 W
theorem DP.drew {σ : Option (List UInt8)} {cs : Array Value} {w0 W : World} (h : DP σ cs w0 W) : DP σ cs w0 W.drew := ⟨h.rd.drew, h.out, h.own, h.bel.drew⟩
theorem DP.grown {σ : Option (List UInt8)} {cs : Array Value} {w0 W W' : World} {row : Option Nat} (h : DP σ cs w0 W) (hg : W.grownBy W' row) (hr : ∀ g, row = some g → w0.heap.size + 3 ≤ g) : DP σ cs w0 W' := by
  have key : ∀ (k : Nat) (o : Obj), k < w0.heap.size + 3 → W.heap[k]? = some o → W'.heap[k]? = some o := fun k o hk ho => (hg.block k (lt_of_heap ho) (fun e => by have := hr k e.symm; omega)).trans ho
  refine ⟨?_, key _ _ (by omega) h.out, key _ _ (by omega) h.own, ?_⟩
  · obtain ⟨s, hs, hp, _⟩ := h.rd.cells
    exact h.rd.under ((key _ _ (by omega) hp).trans hp.symm)
  · refine ⟨hg.os.trans h.bel.os, hg.tape.trans h.bel.tape, hg.output.trans h.bel.output, Nat.le_trans h.bel.size hg.size, fun i hi => ?_⟩
    have h1 := h.bel.block i hi
    have h2 : i < W.heap.size := Nat.lt_of_lt_of_le hi h.bel.size
    exact (hg.block i h2 (fun e => by have := hr i e.symm; omega)).trans h1
theorem DP.alloc {σ : Option (List UInt8)} {cs : Array Value} {w0 W : World} (h : DP σ cs w0 W) (o : Obj) : DP σ cs w0 (W.alloc o) :=
  h.grown (row := none) ⟨rfl, rfl, rfl, by simp, fun k hk _ => Below.heap_alloc _ _ _ hk⟩ (fun g hg => by cases hg)
theorem DP.lo {σ : Option (List UInt8)} {cs : Array Value} {w0 W : World} (h : DP σ cs w0 W) : w0.heap.size + 3 ≤ W.heap.size := lt_of_heap h.own
/-- append(l, n) as a step of a region that draws. -/
theorem step_appI {w : World} {ops : Array Oper} {o : Oper} {a : Act} {K : Act → World → Prop} {Q : Exit → Act → World → Prop} {E : Prop} (hgd : o.guard = none) (s x : Operand)
    (ho : o.op = .call { callee := .builtin .append, args := #[s, x], argTypes := #[22, 22] })
    (B : Nat) (v : Value) (n : Nat) (l : List Int) (f : Int) (hs : a.eval s = v) (hown : w.ownsRow B 3 1 v n (ivs l)) (g : Nat) (hx : a.eval x = .slice (some ⟨g, 0, none⟩) 1 1)
    (hc : w.cell? ⟨g, 0, none⟩ = some (.int .i64 f)) (hl : n ≤ 1000) (hB : B ≤ w.heap.size)
    (h : ∀ v' w', w'.ownsRow B 3 1 v' (n + 1) (ivs (l ++ [f])) → w.grownBy w' v.ownBlock → K (a.put o.dst v') w') :
    if Region.wanted o (yielded ops a.tmps) = true then Oper.wp Try.prog o a w K Q else E := by
  obtain ⟨i, hi, hz0, hz1, hz2⟩ := info_parts intInfo
  refine step_append_lies w hgd s x 22 ho B 3 i (.int .i64 0) 1 8 Try.underlying22 hi hz0 hz1 hz2 rfl (by decide) v n (ivs l) hs hown ⟨g, 0, none⟩ 1 1 [.int .i64 f] hx rfl ?_ ?_ (by decide) ?_ ?_ hB _ rfl ?_
  · intro j u hj
    match j, hj with
    | 0, hj => simp at hj; subst hj; exact hc
  · intro u hu
    simp at hu
    subst hu
    rfl
  · unfold maxLen; omega
  · omega
  · intro g' cap w' h1 h2 _ _
    refine h _ w' ?_ h2
    have e : ivs (l ++ [f]) = ivs l ++ [.int .i64 f] := by simp [ivs]
    rw [e]
    exact h1
/-- Both lists' rows beside the document's reading. -/
structure LW (σ : Option (List UInt8)) (cs : Array Value) (w0 W : World) (vd : Value) (nd : Nat) (L : List Int) (v : Value) (k : Nat) (M : List Fl) : Prop where
  dp : DP σ cs w0 W
  ints : W.ownsRow (w0.heap.size + 3) 3 1 vd nd (ivs L)
  fils : W.ownsRow (w0.heap.size + 3) 45 6 v k (fls M)
theorem row_only {B b n : Nat} {e : TypeId} {z : Nat} {v : Value} {xs : List Value} {w w' : World} (h : w.ownsRow B e z v n xs) (hg : w.grownBy w' (some b)) (hb : b < B) : w'.ownsRow B e z v n xs :=
  row_stay h fun q hq => hg.block q (lt_of_heap (rowKind h hq).choose_spec) (fun e => by have h1 := (h.lt q hq).1; injection e with e; omega)
theorem LW.step {σ σ' : Option (List UInt8)} {cs : Array Value} {w0 W W' : World} {vd v : Value} {nd k : Nat} {L : List Int} {M : List Fl} (h : LW σ cs w0 W vd nd L v k M) (hr : Pt (w0.heap.size + 1) σ' W') (hg : W.grownBy W' (some (w0.heap.size + 1))) : LW σ' cs w0 W' vd nd L v k M :=
  ⟨h.dp.step hr hg, row_only h.ints hg (by omega), row_only h.fils hg (by omega)⟩
theorem LW.alloc {σ : Option (List UInt8)} {cs : Array Value} {w0 W : World} {vd v : Value} {nd k : Nat} {L : List Int} {M : List Fl} (h : LW σ cs w0 W vd nd L v k M) (o : Obj) : LW σ cs w0 (W.alloc o) vd nd L v k M :=
  ⟨h.dp.alloc o, h.ints.alloc o, h.fils.alloc o⟩
theorem LW.drew {σ : Option (List UInt8)} {cs : Array Value} {w0 W : World} {vd v : Value} {nd k : Nat} {L : List Int} {M : List Fl} (h : LW σ cs w0 W vd nd L v k M) : LW σ cs w0 W.drew vd nd L v k M :=
  ⟨h.dp.drew, row_stay h.ints fun _ _ => rfl, row_stay h.fils fun _ _ => rfl⟩
theorem LW.set {σ : Option (List UInt8)} {cs : Array Value} {w0 W : World} {vd v : Value} {nd k : Nat} {L : List Int} {M : List Fl} (h : LW σ cs w0 W vd nd L v k M) (i : Nat) (x : Value) : LW σ (cs.setIfInBounds i x) w0 (W.setCell ⟨w0.heap.size + 2, i, none⟩ x) vd nd L v k M :=
  ⟨h.dp.set i x, row_stay h.ints fun q hq => Below.heap_setCell _ _ _ _ (by have := (h.ints.lt q hq).1; show q ≠ w0.heap.size + 2; omega), row_stay h.fils fun q hq => Below.heap_setCell _ _ _ _ (by have := (h.fils.lt q hq).1; show q ≠ w0.heap.size + 2; omega)⟩
/-- The ints have been appended to. -/
theorem LW.int {σ : Option (List UInt8)} {cs : Array Value} {w0 W W' : World} {vd v vd' : Value} {nd k nd' : Nat} {L L' : List Int} {M : List Fl} (h : LW σ cs w0 W vd nd L v k M) (hr : W'.ownsRow (w0.heap.size + 3) 3 1 vd' nd' (ivs L')) (hg : W.grownBy W' vd.ownBlock) : LW σ cs w0 W' vd' nd' L' v k M :=
  ⟨h.dp.grown hg (fun g e => (h.ints.lt g e).1), hr, row_stay h.fils fun q hq => by
    obtain ⟨c1, h1⟩ := rowKind h.fils hq
    refine hg.block q (lt_of_heap h1) (fun e => ?_)
    obtain ⟨c2, h2⟩ := rowKind h.ints e.symm
    rw [h1] at h2
    simp at h2⟩
/-- The files have been appended to. -/
theorem LW.fil {σ : Option (List UInt8)} {cs : Array Value} {w0 W W' : World} {vd v v' : Value} {nd k k' : Nat} {L : List Int} {M M' : List Fl} (h : LW σ cs w0 W vd nd L v k M) (hr : W'.ownsRow (w0.heap.size + 3) 45 6 v' k' (fls M')) (hg : W.grownBy W' v.ownBlock) : LW σ cs w0 W' vd nd L v' k' M' :=
  ⟨h.dp.grown hg (fun g e => (h.fils.lt g e).1), row_stay h.ints fun q hq => by
    obtain ⟨c1, h1⟩ := rowKind h.ints hq
    refine hg.block q (lt_of_heap h1) (fun e => ?_)
    obtain ⟨c2, h2⟩ := rowKind h.fils e.symm
    rw [h1] at h2
    simp at h2, hr⟩
/-- Besides, a file's own block. -/
structure LQ (σ : Option (List UInt8)) (cs : Array Value) (w0 W : World) (vd : Value) (nd : Nat) (L : List Int) (v : Value) (k : Nat) (M : List Fl) (q : Nat) (fs : Array Value) : Prop where
  lw : LW σ cs w0 W vd nd L v k M
  fb : W.heap[q]? = some (.cells fs 45 (0, 0))
  lo : w0.heap.size + 3 ≤ q
  ap : ∀ g, v.ownBlock = some g → g < q
theorem LQ.start {σ : Option (List UInt8)} {cs : Array Value} {w0 W : World} {vd v : Value} {nd k : Nat} {L : List Int} {M : List Fl} (h : LW σ cs w0 W vd nd L v k M) (fs : Array Value) : LQ σ cs w0 (W.alloc (.cells fs 45)) vd nd L v k M W.heap.size fs :=
  ⟨h.alloc _, heap_alloc_new W _, h.dp.lo, fun g e => lt_of_heap (rowKind h.fils e).choose_spec⟩
theorem LQ.step {σ σ' : Option (List UInt8)} {cs : Array Value} {w0 W W' : World} {vd v : Value} {nd k : Nat} {L : List Int} {M : List Fl} {q : Nat} {fs : Array Value} (h : LQ σ cs w0 W vd nd L v k M q fs) (hr : Pt (w0.heap.size + 1) σ' W') (hg : W.grownBy W' (some (w0.heap.size + 1))) : LQ σ' cs w0 W' vd nd L v k M q fs :=
  ⟨h.lw.step hr hg, only_stay hg h.fb (by have := h.lo; omega), h.lo, h.ap⟩
theorem LQ.set {σ : Option (List UInt8)} {cs : Array Value} {w0 W : World} {vd v : Value} {nd k : Nat} {L : List Int} {M : List Fl} {q : Nat} {fs : Array Value} (h : LQ σ cs w0 W vd nd L v k M q fs) (i : Nat) (x : Value) : LQ σ cs w0 (W.setCell ⟨q, i, none⟩ x) vd nd L v k M q (fs.setIfInBounds i x) := by
  have hlo := h.lo
  have far : ∀ j, j ≠ q → (W.setCell ⟨q, i, none⟩ x).heap[j]? = W.heap[j]? := fun j hj => Below.heap_setCell _ _ _ _ (by exact hj)
  refine ⟨⟨⟨h.lw.dp.rd.under (far _ (by omega)), (far _ (by omega)).trans h.lw.dp.out, (far _ (by omega)).trans h.lw.dp.own, h.lw.dp.bel.setCell (p := ⟨q, i, none⟩) (by show w0.heap.size ≤ q; omega) x⟩, row_stay h.lw.ints fun g hg => far g ?_, row_stay h.lw.fils fun g hg => far g ?_⟩, heap_set_at x h.fb, hlo, h.ap⟩
  · obtain ⟨c1, h1⟩ := rowKind h.lw.ints hg
    intro e
    subst e
    rw [h.fb] at h1
    simp at h1
  · have := h.ap g hg
    omega
end Go.Proofs.Ytchflkibbdfeaaa
