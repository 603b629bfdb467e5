/- How the arguments of hopperlaw07's laws are opened. -/
import Derived.Test.YtbgagcjcpegpaaaShape
import Derived.Test.YtbgagcjcpegpaaaPot
namespace Go.Proofs.Ytbgagcjcpegpaaa.pot
open Go.RowKit Go.ChangeShapes Go.WideShapes Sx
set_option linter.unusedVariables false
theorem typed_int : Typed Try.prog 3 .int := .int Try.underlying3 (by kernel_rfl)
theorem typed_pot : Typed Try.prog 23 (.flat [.int, .int]) := .struct Try.underlying23 (.cons rfl typed_int (.cons rfl typed_int .nil)) (by kernel_rfl)
theorem typed_ints : Typed Try.prog 37 (.row .int) := .row Try.underlying37 (by kernel_rfl) typed_int (by decide)
abbrev Ints := List Int
section
variable {H : Type} {enc : TypeId × Value → H} {W : World} {r : Reach} {b0 base : Nat} {spare : Nat → Bool} {held : Bool} {v : Value} {d : DataW H} {p : List MemPlace}
theorem open_fit (hv : Value.okWide Try.prog W r b0 3 v) (h : DataW.Trod enc Try.prog W base spare held 3 v d p) : ∃ a, v = .int .i64 a ∧ Fits a := by
  obtain ⟨a, rfl, -, -, hw⟩ := open_int Try.underlying3 hv h
  simp [Lit.wf, IntKind.min, IntKind.max, IntKind.signed, IntKind.bits] at hw
  exact ⟨a, rfl, by unfold Fits; omega⟩
theorem open_pot (hv : Value.okWide Try.prog W r b0 23 v) (h : DataW.Trod enc Try.prog W base spare held 23 v d p) : ∃ a b, v = two a b ∧ Fits a ∧ Fits b := by
  obtain ⟨vs, ds, rfl, hl⟩ := open_struct Try.underlying23 typed_pot hv h
  cases hl with
  | cons h1 hl =>
    cases hl with
    | cons h2 hl =>
      cases hl
      cases h1 with
      | int f1 =>
        cases h2 with
        | int f2 => exact ⟨_, _, rfl, f1, f2⟩
theorem open_fits (hv : Value.okWide Try.prog W r b0 37 v) (h : DataW.Trod enc Try.prog W base spare held 37 v d p) : ∃ a n c, ∃ ns : List Int, v = .slice a n c ∧ Sl a n c ∧ n = ns.length ∧ At W (pt a n) (ns.map (Value.int .i64)) ∧ ∀ z ∈ ns, Fits z := by
  obtain ⟨a, n, c, xs, ds, rfl, hs, hn, hl, ha⟩ := open_row Try.underlying37 typed_ints hv h
  obtain ⟨ns, rfl, h2, h3⟩ := hl.ints
  exact ⟨a, n, c, ns, rfl, hs, by omega, ha, h3⟩
end
end Go.Proofs.Ytbgagcjcpegpaaa.pot
