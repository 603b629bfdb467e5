/- Layer 4 (txn.Better) and the document's own, by contract. -/
import Derived.Test.YtofpmnkkimgkfaaDoorKTxnId
import Derived.Deep.RegionHeld3
set_option linter.all false
set_option maxHeartbeats 4000000
set_option maxRecDepth 100000
namespace Go.Proofs.YtofpmnkkimgkfaaDoor.txn
open Go.RowKit codec
def betterV (a b : Tx) : Bool := if a.t ≠ b.t then decide (b.t < a.t) else if idV a ≠ idV b then Op.bytesLess (idV a) (idV b) else if a.s ≠ b.s then decide (a.s < b.s) else decide (a.n < b.n)
end Go.Proofs.YtofpmnkkimgkfaaDoor.txn
