/- Slices of bytes (Ma) beside the varints (Lb) and both Of (Rof). -/
import Derived.Test.YtcpgpdkdopcicaaRof
import Derived.Test.YtcpgpdkdopcicaaBits
import Derived.Test.YtcpgpdkdopcicaaLb
import Derived.Test.YtcpgpdkdopcicaaMa
