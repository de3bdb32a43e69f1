/- The contracts of scalar's calls. -/
import Derived.Test.YtchjnplceelgoabMach2
import Derived.Test.YtchjnplceelgoabScB2
import Derived.Test.YtchjnplceelgoabScJ
import Derived.Test.YtchjnplceelgoabScS
