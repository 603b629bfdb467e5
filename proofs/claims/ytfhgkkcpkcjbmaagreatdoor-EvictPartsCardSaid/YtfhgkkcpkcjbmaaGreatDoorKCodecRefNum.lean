/- Layer 3 of the document's own answer (hopperref03.TakeNumber), by contract. -/
import Derived.Test.YtfhgkkcpkcjbmaaGreatDoorKCodecRefTake
import Derived.Deep.RegionHeld3
set_option linter.all false
set_option maxHeartbeats 4000000
set_option maxRecDepth 100000

