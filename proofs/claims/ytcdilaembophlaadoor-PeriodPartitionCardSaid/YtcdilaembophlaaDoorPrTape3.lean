/-
  A bridge: the rounding's texts stand on the calendar's tape. No condition of its own.
-/
import Derived.Test.YtcdilaembophlaaDoorPrTp
import Derived.Test.YtcdilaembophlaaDoorShelf
