/- All that CanonChecks' walk asks, proved. -/
import Derived.Test.YtloocceakfmnoaaGreatDoorGp9
import Derived.Test.YtloocceakfmnoaaGreatDoorMRw7
import Derived.Test.YtloocceakfmnoaaGreatDoorMLChecks7
