/- The laws: what they come to, told by live as a variable. -/
import Derived.Test.YtdbjakibneeeiaaGreatDoorKG38ExTF
import Derived.Test.YtdbjakibneeeiaaGreatDoorKExRl
set_option linter.all false
set_option maxHeartbeats 4000000
set_option maxRecDepth 100000

