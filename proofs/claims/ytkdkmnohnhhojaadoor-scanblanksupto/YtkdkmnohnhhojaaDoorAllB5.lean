/- All that ScanBlanks' walk asks of scan, proved. -/
import Derived.Test.YtkdkmnohnhhojaaDoorScS5
import Derived.Test.YtkdkmnohnhhojaaDoorLBlanks5
