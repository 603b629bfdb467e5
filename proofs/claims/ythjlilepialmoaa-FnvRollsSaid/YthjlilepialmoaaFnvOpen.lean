/- Arrays of two bytes by value, opened. -/
import Derived.Test.YthjlilepialmoaaOpen
namespace Go.Proofs.Ythjlilepialmoaa.fnv
open Go.RowKit Go.ChangeShapes Go.WideShapes Go.Deep

theorem open_twob {H : Type} {enc : TypeId × Value → H} {W : World} {r : Reach} {b0 base : Nat} {spare : Nat → Bool} {held : Bool} {v : Value} {d : DataW H} {p : List MemPlace}
    (hv : Value.okWide Try.prog W r b0 41 v) (h : DataW.Trod enc Try.prog W base spare held 41 v d p) :
    ∃ a b, v = .agg #[.int .u8 a, .int .u8 b] ∧ (Lit.int .u8 a).wf = true ∧ (Lit.int .u8 b).wf = true := by
  obtain ⟨cs, rfl, hsz⟩ := sat.okWide_array Try.underlying41 hv
  obtain ⟨fuel, hf⟩ := h
  have h2 : cs.size = 2 := hsz.trans (by kernel_rfl)
  obtain ⟨a, b, hcs, wa, wb⟩ := sat.two_ints Try.underlying41 Try.underlying5 (by kernel_rfl) (by simpa [Value.cells] using h2) hf
  refine ⟨a, b, ?_, wa, wb⟩
  have : cs = #[.int .u8 a, .int .u8 b] := by
    have hl : cs.toList = [.int .u8 a, .int .u8 b] := by simpa [Value.cells] using hcs
    cases cs
    simp at hl
    rw [hl]
  rw [this]
end Go.Proofs.Ythjlilepialmoaa.fnv
