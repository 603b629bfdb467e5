/- The order of transactions: who goes ahead of whom. -/
import Derived.Test.YtmoopmcdolonjaaGreatDoorKTxnBetterC
set_option linter.all false
set_option maxHeartbeats 4000000
set_option maxRecDepth 100000

