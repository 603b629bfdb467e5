/- How the arguments of the laws are opened: arrays of two numbers by value, slices of pairs. -/
import Derived.Test.YthjlilepialmoaaSat
import Derived.OpenShut
import Derived.ChangeOld
import Derived.Deep.Slices
namespace Go.Proofs.Ythjlilepialmoaa.sat
open Go.RowKit Go.ChangeShapes Go.WideShapes Go.Deep

section
variable {H : Type} {enc : TypeId × Value → H} {P : Program} {w : World} {base : Nat} {spare : Nat → Bool} {held : Bool}

theorem okWide_array {r : Reach} {n : Nat} {t e : TypeId} {v : Value} (ht : P.underlying t = some (.array n e)) (h : Value.okWide P w r base t v) : ∃ cs, v = .agg cs ∧ cs.size = P.cellsOf t := by
  simp only [Value.okWide, ht] at h
  obtain ⟨cs, h1, h2, _⟩ := h
  exact ⟨cs, h1, h2⟩

/-- Two cells that read as an array of two integers. -/
theorem two_ints {fuel : Nat} {t e : TypeId} {k : IntKind} {cs : List Value} {x : DataW H × List MemPlace} (ht : P.underlying t = some (.array 2 e)) (he : P.underlying e = some (.int k)) (hc : P.cellsOf e = 1)
    (hl : cs.length = 2) (h : DataW.trod enc P w base spare held fuel t cs = some x) :
    ∃ a b, cs = [.int k a, .int k b] ∧ (Lit.int k a).wf = true ∧ (Lit.int k b).wf = true := by
  obtain ⟨xs, m, _, hx, hlen, hn, hi⟩ := DataW.trod_array ht h
  match cs, hl with
  | [c0, c1], _ =>
    match xs, hn with
    | [y0, y1], _ =>
      have g0 := hi 0 (by omega)
      have g1 := hi 1 (by omega)
      simp [hc] at g0 g1
      obtain ⟨a, e0, _, wa⟩ := DataW.trod_int he g0
      obtain ⟨b, e1, _, wb⟩ := DataW.trod_int he g1
      simp at e0 e1
      subst e0 e1
      exact ⟨a, b, rfl, wa, wb⟩
end

theorem add_mk (b off k : Nat) : (⟨b, off, none⟩ : Addr).add k = ⟨b, off + k, none⟩ := by
  unfold Addr.add
  split <;> simp_all

theorem open_two {H : Type} {enc : TypeId × Value → H} {W : World} {r : Reach} {b0 base : Nat} {spare : Nat → Bool} {held : Bool} {v : Value} {d : DataW H} {p : List MemPlace}
    (hv : Value.okWide Try.prog W r b0 29 v) (h : DataW.Trod enc Try.prog W base spare held 29 v d p) :
    ∃ a b, v = .agg #[.int .i64 a, .int .i64 b] ∧ (Lit.int .i64 a).wf = true ∧ (Lit.int .i64 b).wf = true := by
  obtain ⟨cs, rfl, hsz⟩ := okWide_array Try.underlying29 hv
  obtain ⟨fuel, hf⟩ := h
  have h2 : cs.size = 2 := hsz.trans (by kernel_rfl)
  obtain ⟨a, b, hcs, wa, wb⟩ := two_ints Try.underlying29 Try.underlying3 (by kernel_rfl) (by simpa [Value.cells] using h2) hf
  refine ⟨a, b, ?_, wa, wb⟩
  have : cs = #[.int .i64 a, .int .i64 b] := by
    have hl : cs.toList = [.int .i64 a, .int .i64 b] := by simpa [Value.cells] using hcs
    cases cs
    simp at hl
    rw [hl]
  rw [this]

/-- A slice of pairs that came in: X the first ones, Y the second ones. -/
def IsPairs (w : World) (a : Option Addr) (len cap : Nat) (X Y : Nat → Int) : Prop :=
  (len = 0 ∧ cap = 0) ∨ ∃ b off, a = some ⟨b, off, none⟩ ∧ len ≤ cap ∧ cap ≤ maxLen ∧
    (∀ i, i < cap → w.cell? ⟨b, off + i * 2, none⟩ = some (.int .i64 (X i)) ∧ w.cell? ⟨b, off + i * 2 + 1, none⟩ = some (.int .i64 (Y i))) ∧
    ∀ i, i < cap → (Lit.int .i64 (X i)).wf = true ∧ (Lit.int .i64 (Y i)).wf = true

theorem open_pairs {H : Type} {enc : TypeId × Value → H} {W : World} {r : Reach} {b0 base : Nat} {held : Bool} {v : Value} {d : DataW H} {p : List MemPlace}
    (hv : Value.okWide Try.prog W r b0 28 v) (h : DataW.Trod enc Try.prog W base (fun _ => true) held 28 v d p) :
    ∃ a len cap X Y, v = .slice a len cap ∧ IsPairs W a len cap X Y := by
  obtain ⟨a, len, cap, rfl⟩ := okWide_slice Try.underlying28 hv
  obtain ⟨fuel, hf⟩ := h
  rcases open_slice Try.underlying28 hf with ⟨hcs, _⟩ | ⟨a', len', cap', m, n, D, Pl, hcs, _, hl, hm, hmm, _, hx⟩
  · simp [Value.cells] at hcs
    obtain ⟨rfl, rfl, rfl⟩ := hcs
    exact ⟨_, _, _, fun _ => 0, fun _ => 0, rfl, Or.inl ⟨rfl, rfl⟩⟩
  · simp [Value.cells] at hcs
    obtain ⟨rfl, rfl, rfl⟩ := hcs
    simp only [if_true] at hmm
    subst hmm
    have hc2 : Try.prog.cellsOf 29 = 2 := by kernel_rfl
    have each : ∀ i, i < m → ∃ q : Int × Int, W.cell? (a'.add (i * 2)) = some (.int .i64 q.1) ∧ W.cell? (a'.add (i * 2 + 1)) = some (.int .i64 q.2) ∧ (Lit.int .i64 q.1).wf = true ∧ (Lit.int .i64 q.2).wf = true := by
      intro i hi
      obtain ⟨cs', h1, h2⟩ := hx i hi
      rw [hc2] at h1
      obtain ⟨_, hlen, hcell⟩ := World.cells?_some h1
      obtain ⟨x, y, rfl, wx, wy⟩ := two_ints Try.underlying29 Try.underlying3 (by kernel_rfl) hlen h2
      have e0 := hcell 0 (by omega)
      have e1 := hcell 1 (by omega)
      rw [add_add] at e0 e1
      exact ⟨(x, y), by simpa using e0, by simpa using e1, wx, wy⟩
    obtain ⟨q, hq⟩ := choose_lt each
    refine ⟨_, _, _, fun i => (q i).1, fun i => (q i).2, rfl, ?_⟩
    by_cases h0 : m = 0
    · exact Or.inl ⟨by omega, h0⟩
    · obtain ⟨b, off, sp⟩ := a'
      have hz := (hq 0 (by omega)).1
      have hsp : sp = none := by simpa [Addr.add] using World.cell?_spot hz
      subst hsp
      refine Or.inr ⟨b, off, rfl, hl, hm, fun i hi => ?_, fun i hi => ⟨(hq i hi).2.2.1, (hq i hi).2.2.2⟩⟩
      have g := hq i hi
      rw [add_mk, add_mk] at g
      exact ⟨g.1, g.2.1⟩
end Go.Proofs.Ythjlilepialmoaa.sat
