/- Layer 3 of the document's own answer (hopperref03.TakeNumber), by contract. -/
import Derived.Test.YtofpmnkkimgkfaaGreatDoorKCodecRefTake
import Derived.Deep.RegionHeld3
set_option linter.all false
set_option maxHeartbeats 4000000
set_option maxRecDepth 100000
namespace Go.Proofs.YtofpmnkkimgkfaaGreatDoor.codec
open Go.RowKit
end Go.Proofs.YtofpmnkkimgkfaaGreatDoor.codec
