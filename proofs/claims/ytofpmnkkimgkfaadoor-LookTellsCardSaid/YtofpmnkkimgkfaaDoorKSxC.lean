/- Arrays that are built. -/
import Derived.Test.YtofpmnkkimgkfaaDoorKSxEnv
set_option linter.all false
set_option maxHeartbeats 4000000
set_option maxRecDepth 100000
namespace Go.Proofs.YtofpmnkkimgkfaaDoor.Sx
open Go.RowKit
end Go.Proofs.YtofpmnkkimgkfaaDoor.Sx
