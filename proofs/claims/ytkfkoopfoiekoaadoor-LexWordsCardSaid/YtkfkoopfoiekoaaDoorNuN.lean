/- What the Go functions size, signed, Div64 (of a number that fits), away, MulDiv at small numbers, Min, Sum of package num answer. Conditions: those written at each theorem. -/
import Derived.Test.YtkfkoopfoiekoaaDoorNuA
import Derived.Test.YtkfkoopfoiekoaaDoorShelf
import Derived.Shelf.Spec.BitsCarry
import Derived.WalkLawsBesides
import Derived.WalkSpells
namespace Go.Proofs.YtkfkoopfoiekoaaDoor
open Go.RowKit Go.Sort
set_option linter.unusedSimpArgs false
set_option linter.unusedVariables false

theorem below_of_eq {B : Nat} {w w' : World} (h : w = w') : Below B w w' := h ▸ Below.refl _ _
end Go.Proofs.YtkfkoopfoiekoaaDoor
