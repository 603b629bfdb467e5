/- The document's own Encode (hopperref04), by contract. -/
import Derived.Test.YtdbjakibneeeiaaGreatDoorKTxnEnc
import Derived.Test.YtdbjakibneeeiaaGreatDoorKG5CodecRefNum
set_option linter.all false
set_option maxHeartbeats 4000000
set_option maxRecDepth 100000

