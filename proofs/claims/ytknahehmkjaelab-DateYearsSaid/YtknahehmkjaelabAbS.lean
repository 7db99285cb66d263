/- What a number of any size is answered as. -/
import Derived.Test.YtknahehmkjaelabNuE
namespace Go.Proofs.Ytknahehmkjaelab.Nu
open Go.RowKit Go.Sort
set_option linter.unusedSimpArgs false
set_option linter.unusedVariables false

def SumPost (T : Int) (e : Ending) : Prop :=
  (-9223372036854775808 ≤ T ∧ T ≤ 9223372036854775807 → e = .returned (.tuple #[.int .i64 T, .bool true])) ∧ (¬ (-9223372036854775808 ≤ T ∧ T ≤ 9223372036854775807) → e = .returned (.tuple #[.int .i64 0, .bool false]))
end Go.Proofs.Ytknahehmkjaelab.Nu
