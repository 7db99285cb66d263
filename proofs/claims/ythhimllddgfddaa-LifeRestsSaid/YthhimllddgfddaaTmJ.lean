/- Layer 18: the document's example made simple. Conditions: those written at each theorem. -/
import Derived.Test.YthhimllddgfddaaTmI
namespace Go.Proofs.Ythhimllddgfddaa
open Go.RowKit Go.PlainAid
set_option linter.unusedVariables false
set_option linter.unusedSimpArgs false
/-- A box and a zero term behind it. -/
theorem box_zero (x0 x1 x2 x3 : Value) (w : World) : ∀ W, (w.alloc (.cells #[x0, x1, x2, x3] 32)).alloc (.cells #[.int .i64 0, .string ⟨#[]⟩, .slice none 0 0, .slice none 0 0] 32) = W → W.heap[w.heap.size]? = some (.cells #[x0, x1, x2, x3] 32 (0, 0)) ∧ W.heap[w.heap.size + 1]? = some (.cells #[.int .i64 0, .string ⟨#[]⟩, .slice none 0 0, .slice none 0 0] 32 (0, 0)) ∧ Below w.heap.size w W := by
  rintro W rfl
  have h1 : (w.alloc (.cells #[x0, x1, x2, x3] 32)).heap.size = w.heap.size + 1 := by simp
  refine ⟨?_, ?_, ((Below.refl w.heap.size w).alloc (Nat.le_refl _) _).alloc (by omega) _⟩
  · exact (((Below.refl _ _).alloc (Nat.le_refl _) _).block w.heap.size (by omega)).trans (heap_alloc_new w _)
  · rw [← h1]; exact heap_alloc_new _ _
end Go.Proofs.Ythhimllddgfddaa
