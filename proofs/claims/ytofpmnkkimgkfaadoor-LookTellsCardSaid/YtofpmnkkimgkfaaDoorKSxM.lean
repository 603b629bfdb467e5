/- Maps keyed by integers: what is known of them is a list of keys and values; their operations. -/
import Derived.Test.YtofpmnkkimgkfaaDoorKSxx
import Derived.MapKept
import Derived.Carry
set_option linter.all false
set_option maxHeartbeats 4000000
set_option maxRecDepth 100000
namespace Go.Proofs.YtofpmnkkimgkfaaDoor.Sx
open Go.RowKit
def ixM : List (Int × Value) → Int → Option (Nat × Value)
 | [], _ => none
 | p :: l, x => if p.1 = x then some (0, p.2) else (ixM l x).map fun q => (q.1 + 1, q.2)
def lkM (l : List (Int × Value)) (x : Int) : Option Value := (ixM l x).map (·.2)
section
variable {P : Program} {W : World} {G : Option Nat} {Q : Ending → World → Prop} {ds : List Deferred}
end
end Go.Proofs.YtofpmnkkimgkfaaDoor.Sx
