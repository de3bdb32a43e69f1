/- All that the statements' walks ask of scan, proved. -/
import Derived.Test.YtkdkmnohnhhojaaDoorScS5
import Derived.Test.YtkdkmnohnhhojaaDoorLBack5
