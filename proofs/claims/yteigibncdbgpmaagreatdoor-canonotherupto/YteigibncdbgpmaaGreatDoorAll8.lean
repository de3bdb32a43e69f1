/- All that the walk of a record more asks, proved. -/
import Derived.Test.YteigibncdbgpmaaGreatDoorCanS7
import Derived.Test.YteigibncdbgpmaaGreatDoorLOther7
