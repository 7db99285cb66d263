/- The condition of a row that lists the library's tables and errors: the door's own heap meets it; the errors' variables hold errors. No conditions. -/
import Derived.Test.YtkfkoopfoiekoaaDoorRows
import Derived.Test.YtkfkoopfoiekoaaDoorLxE
import Derived.Test.YtkfkoopfoiekoaaDoorArgs
import Derived.ProofKit
import Derived.LaidMore
import Derived.OpenShut
import Derived.ChangeSlices
import Derived.Stop.Joined
import Derived.Stop.LaidErr
namespace Go.Proofs.YtkfkoopfoiekoaaDoor
open Go.ChangeShapes Go.WideShapes Go.ChangeAt Go.WideMaps Go.WideElems Go.RowKit
set_option linter.unusedSimpArgs false
set_option linter.unusedVariables false
abbrev laidT : List (String × DataW Unit) := [("math/bits.deBruijn32tab", Rows.laid_math_bits_deBruijn32tab), ("math/bits.deBruijn64tab", Rows.laid_math_bits_deBruijn64tab), ("internal/strconv.uint64pow10", Rows.laid_internal_strconv_uint64pow10), ("strconv.ErrRange", Rows.laid_strconv_ErrRange), ("strconv.ErrSyntax", Rows.laid_strconv_ErrSyntax)]
/-- The door's own heap meets the condition. -/
theorem door_met (os : Os) (args : Array Value) : laidMetH Tryd.prog laidT ((World.doorLaid Tryd.prog 400 os).forCall (fun _ _ => 0) ⟨#[], args, []⟩).memory :=
  laidMetH_of_parts3 (fuel := 8) (laidMet_of_run' 8 (by kernel_rfl) (by kernel_rfl)) (by kernel_rfl) (by kernel_rfl)
theorem gRange : Tryd.prog.globalNamed "strconv.ErrRange" = some 2 := by kernel_rfl
theorem gSyntax : Tryd.prog.globalNamed "strconv.ErrSyntax" = some 1 := by kernel_rfl
theorem errStar : "*" ++ "errors.errorString" = "*errors.errorString" := by decide
theorem errRow (u : TypeId) (h : Tryd.prog.typeName? 3 u = some "*errors.errorString") : u = 92 :=
  typeName_ptr_named (nm := "errors.errorString") (by rw [errStar]; kernel_rfl) (by kernel_rfl) (by decide) u (by rw [errStar]; exact h)
theorem ev_of {W : World} (h : laidMetH Tryd.prog laidT W) : EV W := by
  rw [MakeChecks.laidMetH_plain _ _ _ (by kernel_rfl)] at h
  have h1 : laidMet Tryd.prog laidT W := h
  have h2 := h1.tail.tail.tail
  have h3 := h2.tail
  obtain ⟨a, s, hv, _⟩ := laid_sentinel (tp := 92) (te := 94) (ts := 9) (ti := 62) h2 gRange (by kernel_rfl) Tryd.underlying62 errRow Tryd.underlying92 Tryd.underlying94 rfl rfl Tryd.underlying9 (by kernel_rfl) (by kernel_rfl)
  obtain ⟨a', s', hv', _⟩ := laid_sentinel (tp := 92) (te := 94) (ts := 9) (ti := 62) h3 gSyntax (by kernel_rfl) Tryd.underlying62 errRow Tryd.underlying92 Tryd.underlying94 rfl rfl Tryd.underlying9 (by kernel_rfl) (by kernel_rfl)
  exact ⟨⟨_, _, (World.var?_cell gSyntax hv' 0).trans rfl⟩, _, _, (World.var?_cell gRange hv 0).trans rfl⟩
end Go.Proofs.YtkfkoopfoiekoaaDoor
