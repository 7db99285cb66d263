/- What strings.Builder's copyCheck and WriteByte do at a builder that the call itself has made. Conditions: those written at each theorem. -/
import Derived.Test.YtkfkoopfoiekoaaDoorChecked
import Derived.WalkKit
import Derived.Lib.Builder
import Derived.Lib.UnsafeStr
import Derived.Laws.NewBlocks
import Derived.OwnWalk
namespace Go.Proofs.YtkfkoopfoiekoaaDoor
open Go.RowKit

theorem byteInfo : (Tryd.prog.info? 5).map (fun i => (i.zero, i.size, i.bytes)) = some (some (.int .u8 0), 1, 1) := by kernel_rfl

end Go.Proofs.YtkfkoopfoiekoaaDoor
