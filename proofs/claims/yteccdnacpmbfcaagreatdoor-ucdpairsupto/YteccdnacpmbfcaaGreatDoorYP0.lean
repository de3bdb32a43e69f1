/- Vk9 -/
import Derived.Test.YteccdnacpmbfcaaGreatDoorW30
namespace Go.Proofs.YteccdnacpmbfcaaGreatDoor
open Go.RowKit
namespace Cn
end Cn
end Go.Proofs.YteccdnacpmbfcaaGreatDoor
