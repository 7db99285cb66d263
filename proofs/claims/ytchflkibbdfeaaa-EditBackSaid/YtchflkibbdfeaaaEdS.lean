/- The document's Decode: its steps against the state machine. Conditions: those written at each theorem. -/
import Derived.Test.YtchflkibbdfeaaaEdK
import Derived.Test.YtchflkibbdfeaaaEdR
namespace Go.Proofs.Ytchflkibbdfeaaa
open Go.RowKit Go.Sort
set_option linter.unusedVariables false
set_option linter.unusedSimpArgs false
theorem sS_sG (σ : Option (List UInt8)) : sS σ = (num (sG σ).1, (sG σ).2) := by
  cases σ with
  | none => rfl
  | some L =>
    cases hg : gt 18446744073709551615 L 0 0 with
    | none => simp [sS, sG, hg]; rfl
    | some q => obtain ⟨n, r⟩ := q; simp [sS, sG, hg]
theorem Pt.lt {b : Nat} {σ : Option (List UInt8)} {w : World} (h : Pt b σ w) : b < w.heap.size := by
  obtain ⟨s, _, h1, _⟩ := h.cells
  exact lt_of_heap h1
theorem Pt.under {b : Nat} {σ : Option (List UInt8)} {w w' : World} (h : Pt b σ w) (k : w'.heap[b]? = w.heap[b]?) : Pt b σ w' := by
  cases σ with
  | none => obtain ⟨s, h1, h2⟩ := h; exact ⟨s, h1, k.trans h2⟩
  | some L => exact ⟨k.trans h.1, h.2⟩
/-- The answer's block, the part's, the edit's own with cells cs: since w0. -/
structure DP (σ : Option (List UInt8)) (cs : Array Value) (w0 W : World) : Prop where
  rd : Pt (w0.heap.size + 1) σ W
  out : W.heap[w0.heap.size]? = some (.cells #[.int .i64 0, .int .i64 0, .int .i64 0, .slice none 0 0, .slice none 0 0] 25 (0, 0))
  own : W.heap[w0.heap.size + 2]? = some (.cells cs 25 (0, 0))
  bel : Below w0.heap.size w0 W
theorem DP.step {σ σ' : Option (List UInt8)} {cs : Array Value} {w0 W W' : World} (h : DP σ cs w0 W) (hr : Pt (w0.heap.size + 1) σ' W') (hg : W.grownBy W' (some (w0.heap.size + 1))) : DP σ' cs w0 W' :=
  ⟨hr, only_stay hg h.out (by omega), only_stay hg h.own (by omega), h.bel.trans (only_below hg (by omega) h.bel.size)⟩
theorem DP.set {σ : Option (List UInt8)} {cs : Array Value} {w0 W : World} (h : DP σ cs w0 W) (i : Nat) (v : Value) : DP σ (cs.setIfInBounds i v) w0 (W.setCell ⟨w0.heap.size + 2, i, none⟩ v) :=
  ⟨h.rd.under (Below.heap_setCell _ _ _ _ (by show w0.heap.size + 1 ≠ w0.heap.size + 2; omega)), (Below.heap_setCell _ _ _ _ (by show w0.heap.size ≠ w0.heap.size + 2; omega)).trans h.out, heap_set_at v h.own, h.bel.setCell (p := ⟨w0.heap.size + 2, i, none⟩) (by simp) v⟩
end Go.Proofs.Ytchflkibbdfeaaa
