/- Layer 18: two terms of one unit are the same. Conditions: those written at each theorem. -/
import Derived.Test.YthhimllddgfddaaTmH
namespace Go.Proofs.Ythhimllddgfddaa
open Go.RowKit Go.PlainAid
set_option linter.unusedVariables false
set_option linter.unusedSimpArgs false
/-- Two boxes of one unit, made one after the other. -/
theorem two_boxes (s : ByteArray) (w : World) : ∀ W, (w.alloc (.cells #[.int .i64 2, .string s, .slice none 0 0, .slice none 0 0] 32)).alloc (.cells #[.int .i64 2, .string s, .slice none 0 0, .slice none 0 0] 32) = W → W.heap[w.heap.size]? = some (.cells #[.int .i64 2, .string s, .slice none 0 0, .slice none 0 0] 32 (0, 0)) ∧ W.heap[w.heap.size + 1]? = some (.cells #[.int .i64 2, .string s, .slice none 0 0, .slice none 0 0] 32 (0, 0)) ∧ Below w.heap.size w W := by
  rintro W rfl
  have h1 : (w.alloc (.cells #[.int .i64 2, .string s, .slice none 0 0, .slice none 0 0] 32)).heap.size = w.heap.size + 1 := by simp
  refine ⟨?_, ?_, ((Below.refl w.heap.size w).alloc (Nat.le_refl _) _).alloc (by omega) _⟩
  · exact (((Below.refl _ _).alloc (Nat.le_refl _) _).block w.heap.size (by omega)).trans (heap_alloc_new w _)
  · rw [← h1]; exact heap_alloc_new _ _
end Go.Proofs.Ythhimllddgfddaa
