/- How accounts, transactions and small arrays of numbers are opened. -/
import Derived.Test.YtofpmnkkimgkfaaGreatDoorKShapeD
set_option linter.all false
set_option maxHeartbeats 4000000
set_option maxRecDepth 100000
namespace Go.Proofs.YtofpmnkkimgkfaaGreatDoor.queue
open Go.RowKit Go.ChangeShapes Go.WideShapes Sx txn
theorem typed_int : Typed Tryz.prog 3 .int := .int Tryz.underlying3 (by kernel_rfl)
theorem typed_string : Typed Tryz.prog 9 .str := .str Tryz.underlying9 (by kernel_rfl)
def Tx.fits (x : Tx) : Prop := Fits x.s ∧ Fits x.n ∧ Fits x.t ∧ Fits x.c ∧ Fits x.g ∧ x.d.size ≤ maxLen
section
variable {H : Type} {enc : TypeId × Value → H} {W : World} {r : Reach} {b0 base : Nat} {spare : Nat → Bool} {held : Bool} {v : Value} {d : DataW H} {p : List MemPlace}
end
end Go.Proofs.YtofpmnkkimgkfaaGreatDoor.queue
