/- A row that is made. -/
import Derived.Test.YtknahehmkjaelabNuP
import Derived.Test.YtknahehmkjaelabNuE
namespace Go.Proofs.Ytknahehmkjaelab.Nu
open Go.RowKit Go.Sort
set_option linter.unusedSimpArgs false
set_option linter.unusedVariables false

theorem made_one (v : Value) (n i : Nat) (hi : i < n) : (madeCells #[v] n)[i]? = some v := by
  unfold madeCells
  rw [Array.getElem?_map, Array.getElem?_range, if_pos hi]
  simp [Nat.mod_one]
theorem made_row (b n : Nat) (w : World) (T : TypeId) (hb : b = w.heap.size) : Row b (List.replicate n 0) (w.alloc (.cells (madeCells #[.int .u64 0] n) T)) := by
  subst hb
  intro j hj
  rw [List.length_replicate] at hj
  refine ⟨?_, World.frozen?_alloc_at _ _ _ _ rfl⟩
  rw [World.cell?_alloc_new, made_one _ _ _ hj]
  simp [List.getD_eq_getElem?_getD, List.getElem?_replicate, hj]
end Go.Proofs.Ytknahehmkjaelab.Nu
