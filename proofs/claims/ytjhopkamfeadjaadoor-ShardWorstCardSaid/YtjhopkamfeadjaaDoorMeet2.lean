/- Calls, met by their contracts: in seats where lists of transactions lie (Row). -/
import Derived.Test.YtjhopkamfeadjaaDoorQueueD
namespace Go.Proofs.YtjhopkamfeadjaaDoor.Sx
open Go.RowKit
set_option linter.unusedVariables false
section
variable {P : Program} {W : World} {G : Option Nat} {Q : Ending → World → Prop} {ds : List Deferred}
theorem wp_both {x y : Tree} (h : x.wpD P W G Q ds) (h' : y.wpD P W G Q ds) : (Tree.both x y).wpD P W G Q ds := ⟨h, h'⟩
end
end Go.Proofs.YtjhopkamfeadjaaDoor.Sx
