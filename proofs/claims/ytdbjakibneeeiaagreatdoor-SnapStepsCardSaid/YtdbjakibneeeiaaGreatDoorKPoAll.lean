/- Layer 13 (pool): what callees lay; Clone of accounts, within, the two Config. -/
import Derived.Test.YtdbjakibneeeiaaGreatDoorKShAll
import Derived.Test.YtdbjakibneeeiaaGreatDoorKQueTop
import Derived.Test.YtdbjakibneeeiaaGreatDoorKTxnTop
import Derived.Test.YtdbjakibneeeiaaGreatDoorKTxnREnc
import Derived.Test.YtdbjakibneeeiaaGreatDoorKG18QueueOpen
set_option linter.all false
set_option maxHeartbeats 4000000
set_option maxRecDepth 100000
namespace Go.Proofs.YtdbjakibneeeiaaGreatDoor.Rn
open Go.RowKit Sx txn queue aL ax
abbrev T1:Tx:=⟨1,0,5,9,10,ByteArray.empty⟩
abbrev T2:Tx:=⟨2,0,4,9,10,ByteArray.empty⟩
abbrev T3:Tx:=⟨3,0,4,9,10,ByteArray.empty⟩
abbrev A1:PA:=(1,0,[T1])
abbrev A2:PA:=(2,0,[T2])
end Go.Proofs.YtdbjakibneeeiaaGreatDoor.Rn
