/- Layer 18: the document's example made simple. Conditions: those written at each theorem. -/
import Derived.Test.YthhimllddgfddaaTmL
namespace Go.Proofs.Ythhimllddgfddaa
open Go.RowKit Go.PlainAid
set_option linter.unusedVariables false
set_option linter.unusedSimpArgs false
end Go.Proofs.Ythhimllddgfddaa
