/- Slices of bytes (Ma) beside the varints (Lb) and both Of (Rof). -/
import Derived.Test.YtdhpphbgobakhaaRof
import Derived.Test.YtdhpphbgobakhaaBits
import Derived.Test.YtdhpphbgobakhaaLb
import Derived.Test.YtdhpphbgobakhaaMa
