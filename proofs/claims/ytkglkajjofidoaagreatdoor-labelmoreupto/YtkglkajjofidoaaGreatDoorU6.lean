/- Lc18 Nf18 Ng18 -/
import Derived.Test.YtkglkajjofidoaaGreatDoorU4
import Derived.Deep.DeepCutAuto
import Derived.Deep.CutBlock
import Derived.Test.YtkglkajjofidoaaGreatDoorU7
namespace Go.Proofs.YtkglkajjofidoaaGreatDoor
open Go.RowKit
namespace Nm
variable {cl:Int→Int} {cp:Int→Int→Int × Bool}
end Nm
end Go.Proofs.YtkglkajjofidoaaGreatDoor
