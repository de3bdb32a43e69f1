/- Of12 Og12 -/
import Derived.Test.YtkglkajjofidoaaGreatDoorU43
import Derived.Deep.CutBlock
import Derived.Deep.DeepCutAuto
namespace Go.Proofs.YtkglkajjofidoaaGreatDoor
open Go.RowKit
namespace Cn
end Cn
namespace Cn
end Cn
end Go.Proofs.YtkglkajjofidoaaGreatDoor
