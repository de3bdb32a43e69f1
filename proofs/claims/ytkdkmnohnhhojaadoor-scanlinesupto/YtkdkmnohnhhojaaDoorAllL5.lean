/- All that ScanLines' walk asks of scan, proved. -/
import Derived.Test.YtkdkmnohnhhojaaDoorScS5
import Derived.Test.YtkdkmnohnhhojaaDoorLLines5
