/- An argument that is an array of two integers by value, opened. -/
import Derived.Test.YtfhbcnomlgiciaaChecked
import Derived.WalkKit
import Derived.OpenShut
import Derived.ChangeOld
import Derived.Deep.Slices
namespace Go.Proofs.Ytfhbcnomlgiciaa.sat
open Go.RowKit Go.ChangeShapes Go.WideShapes Go.Deep

section
variable {H : Type} {enc : TypeId × Value → H} {P : Program} {w : World} {base : Nat} {spare : Nat → Bool} {held : Bool}

theorem okWide_array {r : Reach} {n : Nat} {t e : TypeId} {v : Value} (ht : P.underlying t = some (.array n e)) (h : Value.okWide P w r base t v) : ∃ cs, v = .agg cs ∧ cs.size = P.cellsOf t := by
  simp only [Value.okWide, ht] at h
  obtain ⟨cs, h1, h2, _⟩ := h
  exact ⟨cs, h1, h2⟩

/-- Two cells that read as an array of two integers. -/
theorem two_ints {fuel : Nat} {t e : TypeId} {k : IntKind} {cs : List Value} {x : DataW H × List MemPlace} (ht : P.underlying t = some (.array 2 e)) (he : P.underlying e = some (.int k)) (hc : P.cellsOf e = 1)
    (hl : cs.length = 2) (h : DataW.trod enc P w base spare held fuel t cs = some x) :
    ∃ a b, cs = [.int k a, .int k b] ∧ (Lit.int k a).wf = true ∧ (Lit.int k b).wf = true := by
  obtain ⟨xs, m, _, hx, hlen, hn, hi⟩ := DataW.trod_array ht h
  match cs, hl with
  | [c0, c1], _ =>
    match xs, hn with
    | [y0, y1], _ =>
      have g0 := hi 0 (by omega)
      have g1 := hi 1 (by omega)
      simp [hc] at g0 g1
      obtain ⟨a, e0, _, wa⟩ := DataW.trod_int he g0
      obtain ⟨b, e1, _, wb⟩ := DataW.trod_int he g1
      simp at e0 e1
      subst e0 e1
      exact ⟨a, b, rfl, wa, wb⟩
end

theorem open_two {H : Type} {enc : TypeId × Value → H} {W : World} {r : Reach} {b0 base : Nat} {spare : Nat → Bool} {held : Bool} {v : Value} {d : DataW H} {p : List MemPlace}
    (hv : Value.okWide Try.prog W r b0 36 v) (h : DataW.Trod enc Try.prog W base spare held 36 v d p) :
    ∃ a b, v = .agg #[.int .i64 a, .int .i64 b] ∧ (Lit.int .i64 a).wf = true ∧ (Lit.int .i64 b).wf = true := by
  obtain ⟨cs, rfl, hsz⟩ := okWide_array Try.underlying36 hv
  obtain ⟨fuel, hf⟩ := h
  have h2 : cs.size = 2 := hsz.trans (by kernel_rfl)
  obtain ⟨a, b, hcs, wa, wb⟩ := two_ints Try.underlying36 Try.underlying3 (by kernel_rfl) (by simpa [Value.cells] using h2) hf
  refine ⟨a, b, ?_, wa, wb⟩
  have : cs = #[.int .i64 a, .int .i64 b] := by
    have hl : cs.toList = [.int .i64 a, .int .i64 b] := by simpa [Value.cells] using hcs
    cases cs
    simp at hl
    rw [hl]
  rw [this]
end Go.Proofs.Ytfhbcnomlgiciaa.sat
