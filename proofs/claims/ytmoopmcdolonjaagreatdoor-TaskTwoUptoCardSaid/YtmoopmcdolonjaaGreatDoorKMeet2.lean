/- Calls, met by their contracts: in seats where lists of transactions lie (Row). -/
import Derived.Test.YtmoopmcdolonjaaGreatDoorKQueN
set_option linter.all false
set_option maxHeartbeats 4000000
set_option maxRecDepth 100000
namespace Go.Proofs.YtmoopmcdolonjaaGreatDoor.Sx
open Go.RowKit
section
variable {P : Program} {W : World} {G : Option Nat} {Q : Ending → World → Prop} {ds : List Deferred}
theorem wp_both {x y:Tree} (h:x.wpD P W G Q ds) (h':y.wpD P W G Q ds):(Tree.both x y).wpD P W G Q ds:=⟨h,h'⟩
end
end Go.Proofs.YtmoopmcdolonjaaGreatDoor.Sx
