/- Layer 18 (snap), purely: which locks he holds. -/
import Derived.Test.YtdbjakibneeeiaaGreatDoorKExPg
set_option linter.all false
set_option maxHeartbeats 4000000
set_option maxRecDepth 100000

