/- Calls, met by their contracts: in seats where lists of transactions lie (Row). -/
import Derived.Test.YtdbjakibneeeiaaGreatDoorKG21QueueT
import Derived.Test.YtdbjakibneeeiaaGreatDoorKG20SxA
import Derived.Test.YtdbjakibneeeiaaGreatDoorKG29Ord
set_option linter.all false
set_option maxHeartbeats 4000000
set_option maxRecDepth 100000


