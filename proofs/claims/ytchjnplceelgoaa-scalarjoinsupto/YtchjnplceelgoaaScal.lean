/- The contracts of scalar's calls. -/
import Derived.Test.YtchjnplceelgoaaMach2
import Derived.Test.YtchjnplceelgoaaScA
import Derived.Test.YtchjnplceelgoaaScB2
import Derived.Test.YtchjnplceelgoaaScJ
import Derived.Test.YtchjnplceelgoaaScS
import Derived.Test.YtchjnplceelgoaaLSplit3
namespace Go.Proofs.Ytchjnplceelgoaa
open Go.RowKit
theorem splO : SplO := splO_any
theorem bytesC : BytesC := fun v xs w hv hl => (bytes_any v xs w hv hl).mono fun _ _ ⟨h, e⟩ => ⟨h, by rw [e]; exact Below.refl _ _⟩
end Go.Proofs.Ytchjnplceelgoaa
