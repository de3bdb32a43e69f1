/- All that the statements' walks ask, proved. -/
import Derived.Test.YteigibncdbgpmaaGreatDoorCanS7
import Derived.Test.YteigibncdbgpmaaGreatDoorRn7
import Derived.Test.YteigibncdbgpmaaGreatDoorLOpens7
import Derived.Test.YteigibncdbgpmaaGreatDoorLLeaves7
