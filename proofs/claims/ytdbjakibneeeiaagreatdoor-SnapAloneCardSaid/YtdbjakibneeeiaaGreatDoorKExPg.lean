/- Layer 18 (snap), purely: marks and points; which locks he holds. -/
import Derived.Test.YtdbjakibneeeiaaGreatDoorKG38ExPf
set_option linter.all false
set_option maxHeartbeats 4000000
set_option maxRecDepth 100000

