/- Slices of bytes (Ma) beside the varints (Lb) and both Of (Rof). -/
import Derived.Test.YtembonenaoineaaBits
import Derived.Test.YtembonenaoineaaLb
import Derived.Test.YtembonenaoineaaMa
