/- How accounts, transactions and small arrays of numbers are opened. -/
import Derived.Test.YtofpmnkkimgkfaaDoorKShapeD
set_option linter.all false
set_option maxHeartbeats 4000000
set_option maxRecDepth 100000
namespace Go.Proofs.YtofpmnkkimgkfaaDoor.queue
open Go.RowKit Go.ChangeShapes Go.WideShapes Sx txn
theorem typed_int : Typed Tryd.prog 3 .int := .int Tryd.underlying3 (by kernel_rfl)
theorem typed_string : Typed Tryd.prog 9 .str := .str Tryd.underlying9 (by kernel_rfl)
abbrev shTx : List Sh := [.int, .int, .int, .int, .int, .str]
theorem typed_tx : Typed Tryd.prog 34 (.flat shTx) := .struct Tryd.underlying34 (.cons rfl typed_int (.cons rfl typed_int (.cons rfl typed_int (.cons rfl typed_int (.cons rfl typed_int (.cons rfl typed_string .nil)))))) (by kernel_rfl)
theorem typed_txs : Typed Tryd.prog 24 (.row (.flat shTx)) := .row Tryd.underlying24 (by kernel_rfl) typed_tx (by decide)
theorem typed_acc : Typed Tryd.prog 26 (.flat [.int, .int, .row (.flat shTx)]) := .struct Tryd.underlying26 (.cons rfl typed_int (.cons rfl typed_int (.cons rfl typed_txs .nil))) (by kernel_rfl)
def Tx.fits (x : Tx) : Prop := Fits x.s ∧ Fits x.n ∧ Fits x.t ∧ Fits x.c ∧ Fits x.g ∧ x.d.size ≤ maxLen
theorem lies_tx {w : World} {vs : List Value} {ds : List D} (h : LiesL w shTx vs ds) : ∃ x : Tx, vs = cellsX x ∧ Tx.fits x := by
 cases h with
 | cons h1 h =>
 cases h with
 | cons h2 h =>
 cases h with
 | cons h3 h =>
 cases h with
 | cons h4 h =>
 cases h with
 | cons h5 h =>
 cases h with
 | cons h6 h =>
 cases h
 cases h1 with
 | int f1 =>
 cases h2 with
 | int f2 =>
 cases h3 with
 | int f3 =>
 cases h4 with
 | int f4 =>
 cases h5 with
 | int f5 =>
 cases h6 with
 | str f6 => exact ⟨⟨_, _, _, _, _, _⟩, rfl, f1, f2, f3, f4, f5, f6⟩
theorem LiesN.txs {w : World} : ∀ {vs : List Value} {ds : List D}, LiesN w (.flat shTx) vs ds → ∃ l : List Tx, vs = cellsL l ∧ ds.length = l.length ∧ ∀ x ∈ l, Tx.fits x
 | _, _, .nil => ⟨[], rfl, rfl, by simp⟩
 | _, _, .cons h hl => by
  obtain ⟨l, rfl, h2, h3⟩ := LiesN.txs hl
  cases h with
  | flat h =>
   obtain ⟨x, rfl, hx⟩ := lies_tx h
   refine ⟨x :: l, rfl, by simp [h2], fun p hp => ?_⟩
   rcases List.mem_cons.1 hp with rfl | hp
   ·exact hx
   ·exact h3 p hp
section
variable {H : Type} {enc : TypeId × Value → H} {W : World} {r : Reach} {b0 base : Nat} {spare : Nat → Bool} {held : Bool} {v : Value} {d : DataW H} {p : List MemPlace}
theorem open_tx (hv : Value.okWide Tryd.prog W r b0 34 v) (h : DataW.Trod enc Tryd.prog W base spare held 34 v d p) : ∃ x : Tx, v = x.val ∧ Tx.fits x := by
 obtain ⟨vs, ds, rfl, hl⟩ := open_struct Tryd.underlying34 typed_tx hv h
 obtain ⟨x, rfl, hx⟩ := lies_tx hl
 exact ⟨x, rfl, hx⟩
theorem open_acc (hv : Value.okWide Tryd.prog W r b0 26 v) (h : DataW.Trod enc Tryd.prog W base spare held 26 v d p) : ∃ s b a n c, ∃ l : List Tx, v = .agg #[.int .i64 s, .int .i64 b, .slice a n c] ∧ Sl a n c ∧ n = l.length ∧ At W (pt a n) (cellsL l) ∧ (∀ x ∈ l, Tx.fits x) ∧ Fits s ∧ Fits b := by
 obtain ⟨vs, ds, rfl, hl⟩ := open_struct Tryd.underlying26 typed_acc hv h
 cases hl with
 | cons h1 hl =>
 cases hl with
 | cons h2 hl =>
 cases hl with
 | cons h3 hl =>
 cases hl
 cases h1 with
 | int f1 =>
 cases h2 with
 | int f2 =>
 cases h3 with
 | row hs hn hl ha =>
  obtain ⟨l, rfl, h4, h5⟩ := LiesN.txs hl
  exact ⟨_, _, _, _, _, l, rfl, hs, by omega, ha, h5, f1, f2⟩
end
end Go.Proofs.YtofpmnkkimgkfaaDoor.queue
