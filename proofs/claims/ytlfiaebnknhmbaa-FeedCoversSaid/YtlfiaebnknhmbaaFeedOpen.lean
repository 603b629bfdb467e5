/- How the arguments of hopperlaw14's laws are opened. -/
import Derived.Test.YtlfiaebnknhmbaaFeedL
namespace Go.Proofs.Ytlfiaebnknhmbaa.feed
open Go.RowKit Go.ChangeShapes Go.WideShapes Sx
set_option linter.unusedVariables false
theorem typed_int : Typed Try.prog 3 .int := .int Try.underlying3 (by kernel_rfl)
theorem typed_string : Typed Try.prog 9 .str := .str Try.underlying9 (by kernel_rfl)
theorem typed_ints : Typed Try.prog 50 (.row .int) := .row Try.underlying50 (by kernel_rfl) typed_int (by decide)
abbrev shTx : List Sh := [.int, .int, .int, .int, .int, .str]
theorem typed_tx : Typed Try.prog 34 (.flat shTx) := .struct Try.underlying34 (.cons rfl typed_int (.cons rfl typed_int (.cons rfl typed_int (.cons rfl typed_int (.cons rfl typed_int (.cons rfl typed_string .nil)))))) (by kernel_rfl)
abbrev shEv : List Sh := [.int, .flat shTx, .int]
theorem typed_ev : Typed Try.prog 36 (.flat shEv) := .struct Try.underlying36 (.cons rfl typed_int (.cons rfl typed_tx (.cons rfl typed_int .nil))) (by kernel_rfl)
theorem typed_evs : Typed Try.prog 22 (.row (.flat shEv)) := .row Try.underlying22 (by kernel_rfl) typed_ev (by decide)
theorem typed_feed : Typed Try.prog 24 (.flat [.int, .row (.flat shEv), .int]) := .struct Try.underlying24 (.cons rfl typed_int (.cons rfl typed_evs (.cons rfl typed_int .nil))) (by kernel_rfl)
theorem typed_two : Typed Try.prog 54 (.flat [.row (.flat shEv), .row (.flat shEv)]) := .array (n := 2) Try.underlying54 typed_evs (by kernel_rfl)
/-- Numbers that fit, and data that a machine holds. -/
def Ev.fits (x : Ev) : Prop := Fits x.k ∧ Fits x.s ∧ Fits x.n ∧ Fits x.t ∧ Fits x.c ∧ Fits x.g ∧ x.d.size ≤ maxLen ∧ Fits x.m
theorem lies_ev {w : World} {vs : List Value} {ds : List D} (h : LiesL w shEv vs ds) : ∃ x : Ev, vs = x.cells ∧ Ev.fits x := by
  cases h with
  | cons h1 h =>
  cases h with
  | cons h2 h =>
  cases h with
  | cons h3 h =>
  cases h
  cases h1 with
  | int f1 =>
  cases h3 with
  | int f3 =>
  cases h2 with
  | flat h =>
  cases h with
  | cons h1 h =>
  cases h with
  | cons h2 h =>
  cases h with
  | cons h3 h =>
  cases h with
  | cons h4 h =>
  cases h with
  | cons h5 h =>
  cases h with
  | cons h6 h =>
  cases h
  cases h1 with
  | int g1 =>
  cases h2 with
  | int g2 =>
  cases h3 with
  | int g3 =>
  cases h4 with
  | int g4 =>
  cases h5 with
  | int g5 =>
  cases h6 with
  | str g6 => exact ⟨⟨_, _, _, _, _, _, _, _⟩, rfl, f1, g1, g2, g3, g4, g5, g6, f3⟩
theorem LiesN.evs {w : World} : ∀ {vs : List Value} {ds : List D}, LiesN w (.flat shEv) vs ds → ∃ l : List Ev, vs = cellsE l ∧ ds.length = l.length ∧ ∀ x ∈ l, Ev.fits x
  | _, _, .nil => ⟨[], rfl, rfl, by simp⟩
  | _, _, .cons h hl => by
    obtain ⟨l, rfl, h2, h3⟩ := LiesN.evs hl
    cases h with
    | flat h =>
      obtain ⟨x, rfl, hx⟩ := lies_ev h
      refine ⟨x :: l, rfl, by simp [h2], fun p hp => ?_⟩
      rcases List.mem_cons.1 hp with rfl | hp
      · exact hx
      · exact h3 p hp
abbrev Evs := List Ev
abbrev Ints := List Int
/-- A row of events that came in. -/
def IsEvs (w : World) (a : Option Addr) (n c : Nat) (l : List Ev) : Prop := Sl a n c ∧ n = l.length ∧ At w (pt a n) (cellsE l) ∧ ∀ x ∈ l, Ev.fits x
theorem lies_evs {w : World} {vs : List Value} {d : D} (h : Lies w (.row (.flat shEv)) vs d) : ∃ a n c l, vs = [.slice a n c] ∧ IsEvs w a n c l := by
  cases h with
  | row hs hn hl ha =>
    obtain ⟨l, rfl, h2, h3⟩ := LiesN.evs hl
    exact ⟨_, _, _, l, rfl, hs, by omega, ha, h3⟩
section
variable {H : Type} {enc : TypeId × Value → H} {W : World} {r : Reach} {b0 base : Nat} {spare : Nat → Bool} {held : Bool} {v : Value} {d : DataW H} {p : List MemPlace}
set_option maxRecDepth 100000 in
theorem open_fit (hv : Value.okWide Try.prog W r b0 3 v) (h : DataW.Trod enc Try.prog W base spare held 3 v d p) : ∃ a, v = .int .i64 a ∧ Fits a := by
  obtain ⟨a, rfl, -, -, hw⟩ := open_int Try.underlying3 hv h
  simp [Lit.wf, IntKind.min, IntKind.max, IntKind.signed, IntKind.bits] at hw
  exact ⟨a, rfl, by unfold Fits; omega⟩
set_option maxRecDepth 100000 in
theorem open_fits (hv : Value.okWide Try.prog W r b0 50 v) (h : DataW.Trod enc Try.prog W base spare held 50 v d p) : ∃ a n c, ∃ ns : List Int, v = .slice a n c ∧ Sl a n c ∧ n = ns.length ∧ At W (pt a n) (ns.map (Value.int .i64)) ∧ ∀ z ∈ ns, Fits z := by
  obtain ⟨a, n, c, xs, ds, rfl, hs, hn, hl, ha⟩ := open_row Try.underlying50 typed_ints hv h
  obtain ⟨ns, rfl, h2, h3⟩ := hl.ints
  exact ⟨a, n, c, ns, rfl, hs, by omega, ha, h3⟩
set_option maxRecDepth 100000 in
theorem open_evs (hv : Value.okWide Try.prog W r b0 22 v) (h : DataW.Trod enc Try.prog W base spare held 22 v d p) : ∃ a n c, ∃ l : List Ev, v = .slice a n c ∧ IsEvs W a n c l := by
  obtain ⟨a, n, c, xs, ds, rfl, hs, hn, hl, ha⟩ := open_row Try.underlying22 typed_evs hv h
  obtain ⟨l, rfl, h2, h3⟩ := LiesN.evs hl
  exact ⟨a, n, c, l, rfl, hs, by omega, ha, h3⟩
set_option maxRecDepth 100000 in
theorem open_feed (hv : Value.okWide Try.prog W r b0 24 v) (h : DataW.Trod enc Try.prog W base spare held 24 v d p) : ∃ (x y : Int) (a : Option Addr) (n c : Nat) (l : List Ev), v = fd x a n c y ∧ IsEvs W a n c l ∧ Fits x ∧ Fits y := by
  obtain ⟨vs, ds, rfl, hl⟩ := open_struct Try.underlying24 typed_feed hv h
  cases hl with
  | cons h1 hl =>
  cases hl with
  | cons h2 hl =>
  cases hl with
  | cons h3 hl =>
  cases hl
  obtain ⟨a, n, c, l, rfl, hl⟩ := lies_evs h2
  cases h1 with
  | int f1 =>
  cases h3 with
  | int f3 => exact ⟨_, _, a, n, c, l, rfl, hl, f1, f3⟩
theorem okWide_array {P : Program} {r : Reach} {base n : Nat} {w : World} {t e : TypeId} {v : Value} (ht : P.underlying t = some (.array n e)) (h : Value.okWide P w r base t v) : ∃ cs, v = .agg cs ∧ cs.size = P.cellsOf t := by
  simp only [Value.okWide, ht] at h
  obtain ⟨cs, h1, h2, _⟩ := h
  exact ⟨cs, h1, h2⟩
set_option maxRecDepth 100000 in
theorem open_two (hv : Value.okWide Try.prog W r b0 54 v) (h : DataW.Trod enc Try.prog W base spare held 54 v d p) : ∃ (a : Option Addr) (n c : Nat) (l : List Ev) (b : Option Addr) (m d : Nat) (k : List Ev), v = .agg #[.slice a n c, .slice b m d] ∧ IsEvs W a n c l ∧ IsEvs W b m d k := by
  obtain ⟨cs, rfl, _⟩ := okWide_array Try.underlying54 hv
  obtain ⟨fuel, hf⟩ := h
  obtain ⟨d, hd⟩ := lies_of_trod fuel typed_two hf
  obtain ⟨cs⟩ := cs
  simp only [Value.cells] at hd
  cases hd with
  | flat hl =>
  cases hl with
  | cons h1 hl =>
  cases hl with
  | cons h2 hl =>
  cases hl
  obtain ⟨a, n, c, l, rfl, hl⟩ := lies_evs h1
  obtain ⟨b, m, d, k, rfl, hk⟩ := lies_evs h2
  exact ⟨a, n, c, l, b, m, d, k, rfl, hl, hk⟩
end
end Go.Proofs.Ytlfiaebnknhmbaa.feed
