/- How accounts, transactions and small arrays of numbers are opened. -/
import Derived.Test.YtofpmnkkimgkfaaGreatDoorKShapeD
set_option linter.all false
set_option maxHeartbeats 4000000
set_option maxRecDepth 100000
namespace Go.Proofs.YtofpmnkkimgkfaaGreatDoor.queue
open Go.RowKit Go.ChangeShapes Go.WideShapes Sx txn
theorem typed_int : Typed Tryz.prog 3 .int := .int Tryz.underlying3 (by kernel_rfl)
theorem typed_string : Typed Tryz.prog 9 .str := .str Tryz.underlying9 (by kernel_rfl)
abbrev shTx : List Sh := [.int, .int, .int, .int, .int, .str]
theorem typed_tx : Typed Tryz.prog 31 (.flat shTx) := .struct Tryz.underlying31 (.cons rfl typed_int (.cons rfl typed_int (.cons rfl typed_int (.cons rfl typed_int (.cons rfl typed_int (.cons rfl typed_string .nil)))))) (by kernel_rfl)
theorem typed_txs : Typed Tryz.prog 32 (.row (.flat shTx)) := .row Tryz.underlying32 (by kernel_rfl) typed_tx (by decide)
theorem typed_acc : Typed Tryz.prog 65 (.flat [.int, .int, .row (.flat shTx)]) := .struct Tryz.underlying65 (.cons rfl typed_int (.cons rfl typed_int (.cons rfl typed_txs .nil))) (by kernel_rfl)
def Tx.fits (x : Tx) : Prop := Fits x.s ∧ Fits x.n ∧ Fits x.t ∧ Fits x.c ∧ Fits x.g ∧ x.d.size ≤ maxLen
theorem lies_tx {w : World} {vs : List Value} {ds : List D} (h : LiesL w shTx vs ds) : ∃ x : Tx, vs = cellsX x ∧ Tx.fits x := by
 cases h with
 | cons h1 h =>
 cases h with
 | cons h2 h =>
 cases h with
 | cons h3 h =>
 cases h with
 | cons h4 h =>
 cases h with
 | cons h5 h =>
 cases h with
 | cons h6 h =>
 cases h
 cases h1 with
 | int f1 =>
 cases h2 with
 | int f2 =>
 cases h3 with
 | int f3 =>
 cases h4 with
 | int f4 =>
 cases h5 with
 | int f5 =>
 cases h6 with
 | str f6 => exact ⟨⟨_, _, _, _, _, _⟩, rfl, f1, f2, f3, f4, f5, f6⟩
theorem LiesN.txs {w : World} : ∀ {vs : List Value} {ds : List D}, LiesN w (.flat shTx) vs ds → ∃ l : List Tx, vs = cellsL l ∧ ds.length = l.length ∧ ∀ x ∈ l, Tx.fits x
 | _, _, .nil => ⟨[], rfl, rfl, by simp⟩
 | _, _, .cons h hl => by
  obtain ⟨l, rfl, h2, h3⟩ := LiesN.txs hl
  cases h with
  | flat h =>
   obtain ⟨x, rfl, hx⟩ := lies_tx h
   refine ⟨x :: l, rfl, by simp [h2], fun p hp => ?_⟩
   rcases List.mem_cons.1 hp with rfl | hp
   ·exact hx
   ·exact h3 p hp
section
variable {H : Type} {enc : TypeId × Value → H} {W : World} {r : Reach} {b0 base : Nat} {spare : Nat → Bool} {held : Bool} {v : Value} {d : DataW H} {p : List MemPlace}
theorem open_tx (hv : Value.okWide Tryz.prog W r b0 31 v) (h : DataW.Trod enc Tryz.prog W base spare held 31 v d p) : ∃ x : Tx, v = x.val ∧ Tx.fits x := by
 obtain ⟨vs, ds, rfl, hl⟩ := open_struct Tryz.underlying31 typed_tx hv h
 obtain ⟨x, rfl, hx⟩ := lies_tx hl
 exact ⟨x, rfl, hx⟩
end
end Go.Proofs.YtofpmnkkimgkfaaGreatDoor.queue
