/- How the arguments of hopperlaw08's laws are opened. -/
import Derived.Test.YtoaohkllkooibaaPipeL
namespace Go.Proofs.Ytoaohkllkooibaa.pipe
open Go.RowKit Go.ChangeShapes Go.WideShapes Sx
set_option linter.unusedVariables false
theorem typed_int : Typed Try.prog 3 .int := .int Try.underlying3 (by kernel_rfl)
theorem typed_bool : Typed Try.prog 4 .bool := .bool Try.underlying4 (by kernel_rfl)
theorem typed_string : Typed Try.prog 9 .str := .str Try.underlying9 (by kernel_rfl)
theorem typed_ints : Typed Try.prog 50 (.row .int) := .row Try.underlying50 (by kernel_rfl) typed_int (by decide)
abbrev shIt : List Sh := [.int, .int, .str]
theorem typed_it : Typed Try.prog 26 (.flat shIt) := .struct Try.underlying26 (.cons rfl typed_int (.cons rfl typed_int (.cons rfl typed_string .nil))) (by kernel_rfl)
theorem typed_its : Typed Try.prog 22 (.row (.flat shIt)) := .row Try.underlying22 (by kernel_rfl) typed_it (by decide)
theorem typed_pipe : Typed Try.prog 24 (.flat [.int, .bool, .row (.flat shIt)]) := .struct Try.underlying24 (.cons rfl typed_int (.cons rfl typed_bool (.cons rfl typed_its .nil))) (by kernel_rfl)
theorem lies_it {w : World} {vs : List Value} {ds : List D} (h : LiesL w shIt vs ds) : ∃ x : It, vs = x.cells := by
  cases h with
  | cons h1 h =>
  cases h with
  | cons h2 h =>
  cases h with
  | cons h3 h =>
  cases h
  cases h1 with
  | int f1 =>
  cases h2 with
  | int f2 =>
  cases h3 with
  | str f3 => exact ⟨⟨_, _, _⟩, rfl⟩
theorem LiesN.its {w : World} : ∀ {vs : List Value} {ds : List D}, LiesN w (.flat shIt) vs ds → ∃ l : List It, vs = cellsE l ∧ ds.length = l.length
  | _, _, .nil => ⟨[], rfl, rfl⟩
  | _, _, .cons h hl => by
    obtain ⟨l, rfl, h2⟩ := LiesN.its hl
    cases h with
    | flat h =>
      obtain ⟨x, rfl⟩ := lies_it h
      exact ⟨x :: l, rfl, by simp [h2]⟩
abbrev Its := List It
abbrev Ints := List Int
/-- A row of items that came in. -/
def IsIts (w : World) (a : Option Addr) (n c : Nat) (l : List It) : Prop := Sl a n c ∧ n = l.length ∧ At w (pt a n) (cellsE l)
section
variable {H : Type} {enc : TypeId × Value → H} {W : World} {r : Reach} {b0 base : Nat} {spare : Nat → Bool} {held : Bool} {v : Value} {d : DataW H} {p : List MemPlace}
set_option maxRecDepth 100000 in
theorem open_fit (hv : Value.okWide Try.prog W r b0 3 v) (h : DataW.Trod enc Try.prog W base spare held 3 v d p) : ∃ a, v = .int .i64 a ∧ Fits a := by
  obtain ⟨a, rfl, -, -, hw⟩ := open_int Try.underlying3 hv h
  simp [Lit.wf, IntKind.min, IntKind.max, IntKind.signed, IntKind.bits] at hw
  exact ⟨a, rfl, by unfold Fits; omega⟩
set_option maxRecDepth 100000 in
theorem open_fits (hv : Value.okWide Try.prog W r b0 50 v) (h : DataW.Trod enc Try.prog W base spare held 50 v d p) : ∃ a n c, ∃ ns : List Int, v = .slice a n c ∧ Sl a n c ∧ n = ns.length ∧ At W (pt a n) (ns.map (Value.int .i64)) ∧ ∀ z ∈ ns, Fits z := by
  obtain ⟨a, n, c, xs, ds, rfl, hs, hn, hl, ha⟩ := open_row Try.underlying50 typed_ints hv h
  obtain ⟨ns, rfl, h2, h3⟩ := hl.ints
  exact ⟨a, n, c, ns, rfl, hs, by omega, ha, h3⟩
set_option maxRecDepth 100000 in
theorem open_it (hv : Value.okWide Try.prog W r b0 26 v) (h : DataW.Trod enc Try.prog W base spare held 26 v d p) : ∃ x : It, v = x.val ∧ True := by
  obtain ⟨vs, ds, rfl, hl⟩ := open_struct Try.underlying26 typed_it hv h
  obtain ⟨x, rfl⟩ := lies_it hl
  exact ⟨x, rfl, trivial⟩
set_option maxRecDepth 100000 in
theorem open_its (hv : Value.okWide Try.prog W r b0 22 v) (h : DataW.Trod enc Try.prog W base spare held 22 v d p) : ∃ a n c, ∃ l : List It, v = .slice a n c ∧ IsIts W a n c l := by
  obtain ⟨a, n, c, xs, ds, rfl, hs, hn, hl, ha⟩ := open_row Try.underlying22 typed_its hv h
  obtain ⟨l, rfl, h2⟩ := LiesN.its hl
  exact ⟨a, n, c, l, rfl, hs, by omega, ha⟩
set_option maxRecDepth 100000 in
theorem open_pipe (hv : Value.okWide Try.prog W r b0 24 v) (h : DataW.Trod enc Try.prog W base spare held 24 v d p) : ∃ (x : Int) (b : Bool) (a : Option Addr) (n c : Nat) (l : List It), v = pv x b a n c ∧ IsIts W a n c l ∧ Fits x := by
  obtain ⟨vs, ds, rfl, hl⟩ := open_struct Try.underlying24 typed_pipe hv h
  cases hl with
  | cons h1 hl =>
  cases hl with
  | cons h2 hl =>
  cases hl with
  | cons h3 hl =>
  cases hl
  cases h1 with
  | int f1 =>
  cases h2 with
  | bool =>
  cases h3 with
  | row hs hn hl ha =>
    obtain ⟨l, rfl, h2⟩ := LiesN.its hl
    exact ⟨_, _, _, _, _, l, rfl, ⟨hs, by omega, ha⟩, f1⟩
end
end Go.Proofs.Ytoaohkllkooibaa.pipe
