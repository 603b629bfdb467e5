/- Layer 3 of the document's own answer (hopperref03.TakeNumber), by contract. -/
import Derived.Test.YtjhopkamfeadjaaDoorCodecRefTake
import Derived.Deep.RegionHeld3
namespace Go.Proofs.YtjhopkamfeadjaaDoor.codec
open Go.RowKit
set_option linter.unusedVariables false
set_option linter.unusedSimpArgs false

/-- Two strings that part. -/
theorem str_part (t : TypeId) (a b : List UInt8) (h : a ≠ b) (w : World) : (binOp .neq t (.string ⟨a.toArray⟩) (.string ⟨b.toArray⟩)).run Tryd.prog w = .ok (.bool true) w := by
  simp [go_sem]
  exact h
/-- The bytes behind the first. -/
theorem rest_at (s : ByteArray) (b : UInt8) (r : List UInt8) (e : Hid (s.data.toList = b :: r)) (k : Nat) (hk : k < r.length) (w : World) :
    (Instr.index 9 (.string s) (.int .i64 ((k : Int) + 1))).run Tryd.prog w = .ok (.int .u8 r[k].toNat) w :=
  str_at s (k + 1) _ (by omega) r[k] (by rw [e.out]; simp [hk]) w

end Go.Proofs.YtjhopkamfeadjaaDoor.codec
