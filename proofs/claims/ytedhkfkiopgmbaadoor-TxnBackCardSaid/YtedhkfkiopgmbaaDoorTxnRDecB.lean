/- The document's own Decode (hopperref04): its last ways, by contract. -/
import Derived.Test.YtedhkfkiopgmbaaDoorTxnRDec
namespace Go.Proofs.YtedhkfkiopgmbaaDoor.txn
open Go.RowKit codec
set_option linter.unusedVariables false
set_option linter.unusedSimpArgs false

end Go.Proofs.YtedhkfkiopgmbaaDoor.txn
