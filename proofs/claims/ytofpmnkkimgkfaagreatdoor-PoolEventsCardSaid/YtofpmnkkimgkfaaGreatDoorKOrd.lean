/- The order of transactions: who goes ahead of whom. -/
import Derived.Test.YtofpmnkkimgkfaaGreatDoorKTxnBetterC
set_option linter.all false
set_option maxHeartbeats 4000000
set_option maxRecDepth 100000
namespace Go.Proofs.YtofpmnkkimgkfaaGreatDoor.ord
open Go.RowKit codec txn
end Go.Proofs.YtofpmnkkimgkfaaGreatDoor.ord
