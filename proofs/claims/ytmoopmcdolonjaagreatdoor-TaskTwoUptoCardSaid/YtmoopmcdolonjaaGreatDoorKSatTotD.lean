/- Totals of pairs: the code's, and the document's own (in seats where Slots lies). -/
import Derived.Test.YtmoopmcdolonjaaGreatDoorChecked
import Derived.WalkKit
import Derived.ProofKit
import Derived.WalkLawsBesides
import Derived.Lib.Hide
import Derived.Test.YtmoopmcdolonjaaGreatDoorKFloat
import Derived.RegionTactic
import Derived.ChangeAlike
import Derived.Laws.Rows
set_option linter.all false
set_option maxHeartbeats 4000000
set_option maxRecDepth 100000
namespace Go.Proofs.YtmoopmcdolonjaaGreatDoor.satd
open Go.RowKit
def TotOk (len:Nat) (X Y:Nat→Int):Prop:=len≤1000∧∀i,i<len→(0≤X i∧X i≤1099511627776)∧(0≤Y i∧Y i≤1099511627776)
instance (len:Nat) (X Y:Nat→Int):Decidable (TotOk len X Y):=by unfold TotOk;exact inferInstance
end Go.Proofs.YtmoopmcdolonjaaGreatDoor.satd
