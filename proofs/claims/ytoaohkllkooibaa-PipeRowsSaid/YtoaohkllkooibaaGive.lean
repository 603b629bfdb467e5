/- Rows that are answered, for any element type. -/
import Derived.Test.YtoaohkllkooibaaMeet
import Derived.Test.YtoaohkllkooibaaSxF
namespace Go.Proofs.Ytoaohkllkooibaa.Sx
open Go.RowKit
set_option linter.unusedVariables false
abbrev One := Option Addr × Nat
theorem giveF {W : World} {m : M} {β ρ} {w' : World} {a : Option Addr} {xs : List Value} (n : Nat) (hM : Mem W none m β ρ w') (hm : rowF a xs ∈ m.facts) (hf : Fresh W none a) :
    ∀ g, (rowF (pt a n) xs).g = some g → W.heap.size ≤ g ∧ ∃ o, w'.heap[g]? = some o ∧ (rowF (pt a n) xs).holds o := by
  by_cases h : n = 0
  · rw [show pt a n = none from if_pos h]
    intro g hg
    cases hg
  · rw [show pt a n = a from if_neg h]
    intro g hg
    refine ⟨?_, hM.at_ hm g hg⟩
    cases a with
    | none => cases hg
    | some ad =>
      cases hg
      exact (hf ad rfl).resolve_right (by simp)
theorem give1 {W : World} {m : M} {β ρ} {w' : World} {a : Option Addr} {xs : List Value} (n : Nat) (hM : Mem W none m β ρ w') (hm : rowF a xs ∈ m.facts) (hf : Fresh W none a) :
    ∀ φ ∈ [rowF (pt a n) xs], ∀ g, φ.g = some g → W.heap.size ≤ g ∧ ∃ o, w'.heap[g]? = some o ∧ φ.holds o := by
  intro φ hφ
  simp only [List.mem_singleton] at hφ
  subst hφ
  exact giveF n hM hm hf
theorem meetM {P : Program} {W : World} {G : Option Nat} {Q : Ending → World → Prop} {ds : List Deferred} {f : FuncId} {args : List T} {e : TypeId} {size : Nat} {m : M} {k : Nat → List Value → Tree} {l : List Value} (n : Nat) (ys : List Value) (hv : valsOf args = some l) (hc : callable P f = true)
    (hC : ∀ β ρ w, Mem W G m β ρ w → Calls P f (List.toArray l) w fun e' w' => ∃ v, e' = .returned v ∧ Below w.heap.size w w' ∧ w'.ownsRow w.heap.size e size v n ys) (h : (k n ys).wpD P W G Q ds) : (Tree.make f args e size m k).wpD P W G Q ds :=
  ⟨hc, fun β ρ w vs hm hr => by
    rw [valsOf_spec _ _ _ hv hr]
    exact (hC β ρ w hm).mono fun e' w' ⟨v, h1, h2, h3⟩ => ⟨v, n, ys, h1, h2, h3, h⟩⟩
/-- A call that answers with one row of its own making. -/
theorem meet1 {P : Program} {W : World} {G : Option Nat} {Q : Ending → World → Prop} {ds : List Deferred} {f : FuncId} {args : List T} {l : List Value} {m : M} {k : Value → List Fact → Tree} {n : Nat} {v : Option Addr → Nat → Value} {xs : List Value} (hv : valsOf args = some l) (hc : callable P f = true)
    (hC : ∀ β ρ w, Mem W G m β ρ w → Calls P f (List.toArray l) w fun e w' => ∃ i : One, Sl i.1 n i.2 ∧ Gives w w' e (v i.1 i.2) [rowF (pt i.1 n) xs]) (h : ∀ a c, Sl a n c → (k (v a c) [rowF (pt a n) xs]).wpD P W G Q ds) : (Tree.call f args m k).wpD P W G Q ds :=
  meetR (ι := One) (ok := fun i => Sl i.1 n i.2) (v := fun i => v i.1 i.2) (fs := fun i => [rowF (pt i.1 n) xs]) hc (fun β ρ w vs hm hr => by rw [valsOf_spec _ _ _ hv hr]; exact hC β ρ w hm) (fun i hi => h i.1 i.2 hi)
end Go.Proofs.Ytoaohkllkooibaa.Sx
namespace Go.Proofs.Ytoaohkllkooibaa.Sx
open Go.RowKit
set_option linter.unusedVariables false
/-- What a callee gives back with one row: of its own making, or one that was there. -/
def Lays (w w' : World) (old : Option Nat) (e : Ending) (v : Value) (φ : Fact) : Prop := e = .returned v ∧ Below w.heap.size w w' ∧ ∀ g, φ.g = some g → (w.heap.size ≤ g ∨ old = some g) ∧ ∃ o, w'.heap[g]? = some o ∧ φ.holds o
theorem meetL {P : Program} {W : World} {G : Option Nat} {Q : Ending → World → Prop} {ds : List Deferred} {f : FuncId} {args : List T} {l : List Value} {m : M} {k : Value → List Fact → Tree} {n : Nat} {v : Option Addr → Nat → Value} {xs : List Value} (ψ : Fact) (hψ : ψ ∈ m.facts) (hv : valsOf args = some l) (hc : callable P f = true)
    (hC : ∀ β ρ w, Mem W G m β ρ w → Calls P f (List.toArray l) w fun e w' => ∃ i : One, Sl i.1 n i.2 ∧ Lays w w' ψ.g e (v i.1 i.2) (rowF (pt i.1 n) xs)) (h : ∀ a c, Sl a n c → (k (v a c) [rowF (pt a n) xs]).wpD P W G Q ds) : (Tree.call f args m k).wpD P W G Q ds :=
  ⟨hc, fun β ρ w vs hm hr => by
    rw [valsOf_spec _ _ _ hv hr]
    refine (hC β ρ w hm).mono fun e w' ⟨i, hi, he, hb, hg⟩ => ⟨v i.1 i.2, [rowF (pt i.1 n) xs], he, hb, fun φ hφ g hφg => ?_, h i.1 i.2 hi⟩
    simp only [List.mem_singleton] at hφ
    subst hφ
    obtain ⟨h1, h2⟩ := hg g hφg
    exact ⟨h1.elim (fun h => .inr (.inl h)) (fun h => .inr (.inr ⟨ψ, hψ, h⟩)), h2⟩⟩
theorem Gives.lays {w w' : World} {old : Option Nat} {e v φ} (h : Gives w w' e v [φ]) : Lays w w' old e v φ := ⟨h.1, h.2.1, fun g hg => ⟨.inl (h.2.2 φ List.mem_cons_self g hg).1, (h.2.2 φ List.mem_cons_self g hg).2⟩⟩
theorem lays_old {w w' : World} {e v φ} (he : e = .returned v) (hb : Below w.heap.size w w') (h : ∀ g, φ.g = some g → ∃ o, w'.heap[g]? = some o ∧ φ.holds o) : Lays w w' φ.g e v φ := ⟨he, hb, fun g hg => ⟨.inr hg, h g hg⟩⟩
end Go.Proofs.Ytoaohkllkooibaa.Sx
namespace Go.Proofs.Ytoaohkllkooibaa.Sx
open Go.RowKit
set_option linter.unusedVariables false
theorem Env.Ok.how {E : Env} {P : Program} (hE : E.Ok P) (h : List (FuncId × How)) : ({ E with how := h } : Env).Ok P := ⟨hE.zero, hE.agg1, hE.aggN, hE.off, hE.row, hE.str, hE.strs, hE.ints, hE.size, hE.mixed, hE.row1, hE.meth, hE.arr⟩
/-- What a slot's row is, whatever the slot knows of it. -/
def Holds (W : World) (G : Option Nat) (m : M) (x : T) (n : Nat) (xs : List Value) : Prop := ∀ β ρ w y, Mem W G m β ρ w → Rel β ρ x y → ∃ a c, y = .slice a n c ∧ Sl a n c ∧ At w (pt a n) xs
theorem At.pt {w : World} {a : Option Addr} {xs : List Value} (n : Nat) (h : At w a xs) : At w (pt a n) xs := by
  unfold Sx.pt
  split
  · exact fun g hg => by cases hg
  · exact h
theorem holds_v {W : World} {G : Option Nat} {m : M} {a : Option Addr} {n c : Nat} {xs : List Value} (hs : Sl a n c) (hm : rowF (pt a n) xs ∈ m.facts) : Holds W G m (.v (.slice a n c)) n xs := fun β ρ w y hM hy => ⟨a, c, hy, hs, hM.at_ hm⟩
theorem holds_r {W : World} {G : Option Nat} {m : M} {i : Nat} {r : Row} (hi : m.rows[i]? = some (some r)) : Holds W G m (.r i) r.n r.xs := fun β ρ w y hM hy => by
  obtain ⟨a, c, h1, h2, h3⟩ := hM.at_own hi hy
  exact ⟨a, c, h1, h2, h3.pt _⟩
/-- A call that is lent two rows. -/
theorem meet2 {P : Program} {W : World} {G : Option Nat} {Q : Ending → World → Prop} {ds : List Deferred} {f : FuncId} {x x' : T} {m : M} {k : Value → List Fact → Tree} {v : Value} {n n' : Nat} {xs xs' : List Value} (hx : Holds W G m x n xs) (hx' : Holds W G m x' n' xs') (hc : callable P f = true)
    (hC : ∀ a b c d w, Sl a n c → Sl b n' d → At w (pt a n) xs → At w (pt b n') xs' → Calls P f (List.toArray [.slice a n c, .slice b n' d]) w fun e w' => e = .returned v ∧ Below w.heap.size w w') (h : (k v []).wpD P W G Q ds) : (Tree.call f [x, x'] m k).wpD P W G Q ds :=
  meet v hc (fun β ρ w vs hm hr => by
    obtain ⟨y, y', rfl, h1, h2⟩ := hr.two
    obtain ⟨a, c, rfl, s1, a1⟩ := hx β ρ w y hm h1
    obtain ⟨b, d, rfl, s2, a2⟩ := hx' β ρ w y' hm h2
    exact hC a b c d w s1 s2 a1 a2) h
end Go.Proofs.Ytoaohkllkooibaa.Sx
