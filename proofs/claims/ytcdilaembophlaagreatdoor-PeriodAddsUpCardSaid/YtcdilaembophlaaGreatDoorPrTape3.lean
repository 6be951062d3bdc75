/-
  A bridge: the rounding's texts stand on the calendar's tape. No condition of its own.
-/
import Derived.Test.YtcdilaembophlaaGreatDoorPrTp
import Derived.Test.YtcdilaembophlaaGreatDoorShelf
