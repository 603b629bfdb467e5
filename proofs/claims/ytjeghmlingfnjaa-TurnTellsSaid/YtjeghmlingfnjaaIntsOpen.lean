/- How numbers, rows of numbers, of bools, of pairs are opened. -/
import Derived.Test.YtjeghmlingfnjaaShape
namespace Go.Proofs.Ytjeghmlingfnjaa.ints
open Go.RowKit Go.ChangeShapes Go.WideShapes Sx
set_option linter.unusedVariables false
theorem typed_int : Typed Try.prog 3 .int := .int Try.underlying3 (by kernel_rfl)
theorem typed_bool : Typed Try.prog 4 .bool := .bool Try.underlying4 (by kernel_rfl)
theorem typed_ints : Typed Try.prog 50 (.row .int) := .row Try.underlying50 (by kernel_rfl) typed_int (by decide)
theorem typed_bools : Typed Try.prog 72 (.row .bool) := .row Try.underlying72 (by kernel_rfl) typed_bool (by decide)
theorem typed_pair : Typed Try.prog 70 (.flat [.int, .int]) := .array (n := 2) Try.underlying70 typed_int (by kernel_rfl)
theorem typed_pairs : Typed Try.prog 69 (.row (.flat [.int, .int])) := .row Try.underlying69 (by kernel_rfl) typed_pair (by decide)
theorem LiesN.bools {w : World} : ∀ {vs : List Value} {ds : List D}, LiesN w .bool vs ds → ∃ bs : List Bool, vs = bs.map Value.bool ∧ ds.length = bs.length
  | _, _, .nil => ⟨[], rfl, rfl⟩
  | _, _, .cons h hl => by
    obtain ⟨bs, rfl, h2⟩ := LiesN.bools hl
    cases h with
    | bool => exact ⟨_ :: bs, rfl, by simp [h2]⟩
def pc (l : List (Int × Int)) : List Value := l.flatMap fun p => [.int .i64 p.1, .int .i64 p.2]
theorem LiesN.pairs {w : World} : ∀ {vs : List Value} {ds : List D}, LiesN w (.flat [.int, .int]) vs ds → ∃ ps : List (Int × Int), vs = pc ps ∧ ds.length = ps.length ∧ ∀ p ∈ ps, Fits p.1 ∧ Fits p.2
  | _, _, .nil => ⟨[], rfl, rfl, by simp⟩
  | _, _, .cons h hl => by
    obtain ⟨ps, rfl, h2, h3⟩ := LiesN.pairs hl
    cases h with
    | flat h =>
      cases h with
      | cons h1 h =>
        cases h with
        | cons h4 h =>
          cases h
          cases h1 with
          | int f1 =>
            cases h4 with
            | int f2 =>
              refine ⟨(_, _) :: ps, rfl, by simp [h2], fun p hp => ?_⟩
              rcases List.mem_cons.1 hp with rfl | hp
              · exact ⟨f1, f2⟩
              · exact h3 p hp
abbrev Ints := List Int
abbrev Bools := List Bool
abbrev Pairs := List (Int × Int)
section
variable {H : Type} {enc : TypeId × Value → H} {W : World} {r : Reach} {b0 base : Nat} {spare : Nat → Bool} {held : Bool} {v : Value} {d : DataW H} {p : List MemPlace}
theorem open_fit (hv : Value.okWide Try.prog W r b0 3 v) (h : DataW.Trod enc Try.prog W base spare held 3 v d p) : ∃ a, v = .int .i64 a ∧ Fits a := by
  obtain ⟨a, rfl, -, -, hw⟩ := open_int Try.underlying3 hv h
  simp [Lit.wf, IntKind.min, IntKind.max, IntKind.signed, IntKind.bits] at hw
  exact ⟨a, rfl, by unfold Fits; omega⟩
theorem open_fits (hv : Value.okWide Try.prog W r b0 50 v) (h : DataW.Trod enc Try.prog W base spare held 50 v d p) : ∃ a n c, ∃ ns : List Int, v = .slice a n c ∧ Sl a n c ∧ n = ns.length ∧ At W (pt a n) (ns.map (Value.int .i64)) ∧ ∀ z ∈ ns, Fits z := by
  obtain ⟨a, n, c, xs, ds, rfl, hs, hn, hl, ha⟩ := open_row Try.underlying50 typed_ints hv h
  obtain ⟨ns, rfl, h2, h3⟩ := hl.ints
  exact ⟨a, n, c, ns, rfl, hs, by omega, ha, h3⟩
theorem open_bools (hv : Value.okWide Try.prog W r b0 72 v) (h : DataW.Trod enc Try.prog W base spare held 72 v d p) : ∃ a n c, ∃ ns : List Bool, v = .slice a n c ∧ Sl a n c ∧ n = ns.length ∧ At W (pt a n) (ns.map Value.bool) := by
  obtain ⟨a, n, c, xs, ds, rfl, hs, hn, hl, ha⟩ := open_row Try.underlying72 typed_bools hv h
  obtain ⟨ns, rfl, h2⟩ := LiesN.bools hl
  exact ⟨a, n, c, ns, rfl, hs, by omega, ha⟩
theorem open_pairs (hv : Value.okWide Try.prog W r b0 69 v) (h : DataW.Trod enc Try.prog W base spare held 69 v d p) : ∃ a n c, ∃ ns : List (Int × Int), v = .slice a n c ∧ Sl a n c ∧ n = ns.length ∧ At W (pt a n) (pc ns) ∧ ∀ z ∈ ns, Fits z.1 ∧ Fits z.2 := by
  obtain ⟨a, n, c, xs, ds, rfl, hs, hn, hl, ha⟩ := open_row Try.underlying69 typed_pairs hv h
  obtain ⟨ns, rfl, h2, h3⟩ := LiesN.pairs hl
  exact ⟨a, n, c, ns, rfl, hs, by omega, ha, h3⟩
end
end Go.Proofs.Ytjeghmlingfnjaa.ints
