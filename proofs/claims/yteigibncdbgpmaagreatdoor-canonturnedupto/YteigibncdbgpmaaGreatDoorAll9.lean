/- All that the walk of CanonTurned asks, proved. -/
import Derived.Test.YteigibncdbgpmaaGreatDoorCanS7
import Derived.Test.YteigibncdbgpmaaGreatDoorLTurned7
