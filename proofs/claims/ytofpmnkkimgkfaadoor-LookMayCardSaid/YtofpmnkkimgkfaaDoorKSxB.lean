/- Appends left open in drawn regions: what the row's new place is apart from. -/
import Derived.Test.YtofpmnkkimgkfaaDoorKSxx
set_option linter.all false
set_option maxHeartbeats 4000000
set_option maxRecDepth 100000
namespace Go.Proofs.YtofpmnkkimgkfaaDoor.Sx
open Go.RowKit
section
variable {P : Program} {W : World} {G : Option Nat} {Q : Ending → World → Prop} {ds : List Deferred}
end
end Go.Proofs.YtofpmnkkimgkfaaDoor.Sx
