/- Vq9 Vr9 Vs9 -/
import Derived.Test.YtkglkajjofidoaaGreatDoorU42
namespace Go.Proofs.YtkglkajjofidoaaGreatDoor
open Go.RowKit
open Ti
namespace Cn
end Cn
namespace Cn
end Cn
open Ti
open Ti
end Go.Proofs.YtkglkajjofidoaaGreatDoor
