/- Layer 20: the condition of a row that lists the library's tables: the door's own heap meets it; the table of powers out of it. No conditions. -/
import Derived.Test.YtdkjjpfidkaagaaDoorRows
import Derived.Test.YtdkjjpfidkaagaaDoorPuA
import Derived.ProofKit
import Derived.LaidMore
import Derived.OpenShut
import Derived.ChangeSlices
import Derived.Stop.Joined
import Derived.Stop.LaidErr
namespace Go.Proofs.YtdkjjpfidkaagaaDoor
open Go.ChangeShapes Go.WideShapes Go.ChangeAt Go.WideMaps Go.WideElems Go.RowKit Go.Sort
set_option linter.unusedSimpArgs false
set_option linter.unusedVariables false
abbrev laidT : List (String × DataW Unit) := [("math/bits.deBruijn32tab", Rows.laid_math_bits_deBruijn32tab), ("math/bits.deBruijn64tab", Rows.laid_math_bits_deBruijn64tab), ("internal/strconv.uint64pow10", Rows.laid_internal_strconv_uint64pow10)]
/-- The door's own heap meets the condition. -/
theorem door_met (os : Os) (args : Array Value) : laidMetH Tryd.prog laidT ((World.doorLaid Tryd.prog 400 os).forCall (fun _ _ => 0) ⟨#[], args, []⟩).memory :=
  laidMetH_of_parts3 (fuel := 8) (laidMet_of_run' 8 (by kernel_rfl) (by kernel_rfl)) (by kernel_rfl) (by kernel_rfl)

theorem laid_pow : (Rows.laid_internal_strconv_uint64pow10 : DataW Unit) = Lib.tabData .u64 Lib.pow10Tab := by kernel_rfl
theorem pow_of {W : World} (h : laidMetH Tryd.prog laidT W) : Nu.PowAt W := by
  rw [MakeChecks.laidMetH_plain _ _ _ (by kernel_rfl)] at h
  have h3 := (laidMet.tail (laidMet.tail h))
  rw [laid_pow] at h3
  exact Lib.tabIs_of_head (t := 172) (e := 118) (n := 20) Nu.gPow (by kernel_rfl) Tryd.underlying172 Tryd.underlying118 (by kernel_rfl) (by kernel_rfl) h3

end Go.Proofs.YtdkjjpfidkaagaaDoor
