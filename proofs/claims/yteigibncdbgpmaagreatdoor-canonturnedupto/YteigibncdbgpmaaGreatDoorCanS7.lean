/- Canon's contracts: classC, openC, primC, fullC, checkC. -/
import Derived.Test.YteigibncdbgpmaaGreatDoorCcW7
