/- Layer 3 (codec: TakeText), by contract. -/
import Derived.Test.YtjhopkamfeadjaaDoorCodecTake
namespace Go.Proofs.YtjhopkamfeadjaaDoor.codec
open Go.RowKit
set_option linter.unusedVariables false
set_option linter.unusedSimpArgs false

theorem add_mk (b off k : Nat) : (⟨b, off, none⟩ : Addr).add k = ⟨b, off + k, none⟩ := by
  unfold Addr.add
  split <;> simp_all

end Go.Proofs.YtjhopkamfeadjaaDoor.codec
