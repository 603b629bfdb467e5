/- How accounts, transactions and small arrays of numbers are opened. -/
import Derived.Test.YtjhopkamfeadjaaDoorShapeD
namespace Go.Proofs.YtjhopkamfeadjaaDoor.queue
open Go.RowKit Go.ChangeShapes Go.WideShapes Sx txn
set_option linter.unusedVariables false
theorem typed_int : Typed Tryd.prog 3 .int := .int Tryd.underlying3 (by kernel_rfl)
theorem typed_string : Typed Tryd.prog 9 .str := .str Tryd.underlying9 (by kernel_rfl)
abbrev shTx : List Sh := [.int, .int, .int, .int, .int, .str]
theorem typed_tx : Typed Tryd.prog 32 (.flat shTx) := .struct Tryd.underlying32 (.cons rfl typed_int (.cons rfl typed_int (.cons rfl typed_int (.cons rfl typed_int (.cons rfl typed_int (.cons rfl typed_string .nil)))))) (by kernel_rfl)
theorem typed_txs : Typed Tryd.prog 38 (.row (.flat shTx)) := .row Tryd.underlying38 (by kernel_rfl) typed_tx (by decide)
theorem typed_acc : Typed Tryd.prog 46 (.flat [.int, .int, .row (.flat shTx)]) := .struct Tryd.underlying46 (.cons rfl typed_int (.cons rfl typed_int (.cons rfl typed_txs .nil))) (by kernel_rfl)
/-- Numbers that fit, and data that a machine holds. -/
def Tx.fits (x : Tx) : Prop := Fits x.s ∧ Fits x.n ∧ Fits x.t ∧ Fits x.c ∧ Fits x.g ∧ x.d.size ≤ maxLen
theorem lies_tx {w : World} {vs : List Value} {ds : List D} (h : LiesL w shTx vs ds) : ∃ x : Tx, vs = cellsX x ∧ Tx.fits x := by
  cases h with
  | cons h1 h =>
  cases h with
  | cons h2 h =>
  cases h with
  | cons h3 h =>
  cases h with
  | cons h4 h =>
  cases h with
  | cons h5 h =>
  cases h with
  | cons h6 h =>
  cases h
  cases h1 with
  | int f1 =>
  cases h2 with
  | int f2 =>
  cases h3 with
  | int f3 =>
  cases h4 with
  | int f4 =>
  cases h5 with
  | int f5 =>
  cases h6 with
  | str f6 => exact ⟨⟨_, _, _, _, _, _⟩, rfl, f1, f2, f3, f4, f5, f6⟩
theorem LiesN.txs {w : World} : ∀ {vs : List Value} {ds : List D}, LiesN w (.flat shTx) vs ds → ∃ l : List Tx, vs = cellsL l ∧ ds.length = l.length ∧ ∀ x ∈ l, Tx.fits x
  | _, _, .nil => ⟨[], rfl, rfl, by simp⟩
  | _, _, .cons h hl => by
    obtain ⟨l, rfl, h2, h3⟩ := LiesN.txs hl
    cases h with
    | flat h =>
      obtain ⟨x, rfl, hx⟩ := lies_tx h
      refine ⟨x :: l, rfl, by simp [h2], fun p hp => ?_⟩
      rcases List.mem_cons.1 hp with rfl | hp
      · exact hx
      · exact h3 p hp
theorem okWide_array {P : Program} {r : Reach} {base n : Nat} {w : World} {t e : TypeId} {v : Value} (ht : P.underlying t = some (.array n e)) (h : Value.okWide P w r base t v) : ∃ cs, v = .agg cs ∧ cs.size = P.cellsOf t := by
  simp only [Value.okWide, ht] at h
  obtain ⟨cs, h1, h2, _⟩ := h
  exact ⟨cs, h1, h2⟩
abbrev Txs := List Tx
section
variable {H : Type} {enc : TypeId × Value → H} {W : World} {r : Reach} {b0 base : Nat} {spare : Nat → Bool} {held : Bool} {v : Value} {d : DataW H} {p : List MemPlace}
set_option maxRecDepth 100000 in
theorem open_fit (hv : Value.okWide Tryd.prog W r b0 3 v) (h : DataW.Trod enc Tryd.prog W base spare held 3 v d p) : ∃ a, v = .int .i64 a ∧ Fits a := by
  obtain ⟨a, rfl, -, -, hw⟩ := open_int Tryd.underlying3 hv h
  simp [Lit.wf, IntKind.min, IntKind.max, IntKind.signed, IntKind.bits] at hw
  exact ⟨a, rfl, by unfold Fits; omega⟩
set_option maxRecDepth 100000 in
theorem open_tx (hv : Value.okWide Tryd.prog W r b0 32 v) (h : DataW.Trod enc Tryd.prog W base spare held 32 v d p) : ∃ x : Tx, v = x.val ∧ Tx.fits x := by
  obtain ⟨vs, ds, rfl, hl⟩ := open_struct Tryd.underlying32 typed_tx hv h
  obtain ⟨x, rfl, hx⟩ := lies_tx hl
  exact ⟨x, rfl, hx⟩
set_option maxRecDepth 100000 in
theorem open_txs (hv : Value.okWide Tryd.prog W r b0 38 v) (h : DataW.Trod enc Tryd.prog W base spare held 38 v d p) : ∃ a n c, ∃ l : List Tx, v = .slice a n c ∧ Sl a n c ∧ n = l.length ∧ At W (pt a n) (cellsL l) ∧ ∀ x ∈ l, Tx.fits x := by
  obtain ⟨a, n, c, xs, ds, rfl, hs, hn, hl, ha⟩ := open_row Tryd.underlying38 typed_txs hv h
  obtain ⟨l, rfl, h2, h3⟩ := LiesN.txs hl
  exact ⟨a, n, c, l, rfl, hs, by omega, ha, h3⟩
set_option maxRecDepth 100000 in
theorem open_acc (hv : Value.okWide Tryd.prog W r b0 46 v) (h : DataW.Trod enc Tryd.prog W base spare held 46 v d p) : ∃ s b a n c, ∃ l : List Tx, v = .agg #[.int .i64 s, .int .i64 b, .slice a n c] ∧ Sl a n c ∧ n = l.length ∧ At W (pt a n) (cellsL l) ∧ (∀ x ∈ l, Tx.fits x) ∧ Fits s ∧ Fits b := by
  obtain ⟨vs, ds, rfl, hl⟩ := open_struct Tryd.underlying46 typed_acc hv h
  cases hl with
  | cons h1 hl =>
  cases hl with
  | cons h2 hl =>
  cases hl with
  | cons h3 hl =>
  cases hl
  cases h1 with
  | int f1 =>
  cases h2 with
  | int f2 =>
  cases h3 with
  | row hs hn hl ha =>
    obtain ⟨l, rfl, h4, h5⟩ := LiesN.txs hl
    exact ⟨_, _, _, _, _, l, rfl, hs, by omega, ha, h5, f1, f2⟩
end
end Go.Proofs.YtjhopkamfeadjaaDoor.queue
