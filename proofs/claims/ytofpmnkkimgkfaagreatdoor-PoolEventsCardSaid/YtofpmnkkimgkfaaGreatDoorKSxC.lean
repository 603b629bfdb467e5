/- Arrays that are built. -/
import Derived.Test.YtofpmnkkimgkfaaGreatDoorKSxEnv
set_option linter.all false
set_option maxHeartbeats 4000000
set_option maxRecDepth 100000
namespace Go.Proofs.YtofpmnkkimgkfaaGreatDoor.Sx
open Go.RowKit
end Go.Proofs.YtofpmnkkimgkfaaGreatDoor.Sx
