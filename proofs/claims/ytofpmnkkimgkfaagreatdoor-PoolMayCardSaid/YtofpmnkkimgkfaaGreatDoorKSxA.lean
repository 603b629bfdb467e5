/- Appends that are left open: the row is a block of which all is known. -/
import Derived.Test.YtofpmnkkimgkfaaGreatDoorKSxO
set_option linter.all false
set_option maxHeartbeats 4000000
set_option maxRecDepth 100000
namespace Go.Proofs.YtofpmnkkimgkfaaGreatDoor.Sx
open Go.RowKit
section
variable {P : Program} {W : World} {G : Option Nat} {Q : Ending → World → Prop} {ds : List Deferred}
theorem vals_eqA {β ρ} : ∀ {l : List Value} {vs : List Value}, Rels β ρ (l.map T.v) vs → vs = l
 | [], vs, h => List.eq_nil_of_length_eq_zero h.1
 | x :: l, vs, h => by
  cases vs with
  | nil => have := h.1; simp at this
  | cons y vs =>
   obtain ⟨y', hy, hyr⟩ := h.2 0 _ rfl
   simp at hy
   subst hy
   have : Rels β ρ (l.map T.v) vs := ⟨by have := h.1; simpa using this, fun i x hx => by obtain ⟨u, hu, hur⟩ := h.2 (i + 1) x (by simpa using hx); exact ⟨u, by simpa using hu, hur⟩⟩
   rw [vals_eqA this]
   have e : y = x := hyr
   rw [e]
def ownF (v : Value) (e : TypeId) (size n : Nat) (xs : List Value) : Fact := ⟨v.ownBlock, fun o => ∃ cap cur, v = .slice (some ⟨(v.ownBlock).getD 0, 0, none⟩) n cap ∧ o = .cells cur e (0, 0) ∧ n ≤ cap ∧ cap ≤ maxLen ∧ cur.size = cap * size ∧ cur.toList.take (n * size) = xs⟩
def TV (W : World) (v : Value) (n : Nat) : Prop := (v = .slice none 0 0 ∧ n = 0) ∨ ∃ g cap, v = .slice (some ⟨g, 0, none⟩) n cap ∧ W.heap.size ≤ g
theorem tv_nil {W : World} : TV W (.slice none 0 0) 0 := .inl ⟨rfl, rfl⟩
theorem own_of_fact {m : M} {β ρ} {w : World} {v : Value} {e : TypeId} {size n : Nat} {xs : List Value} (h : Mem W G m β ρ w) (hF : ownF v e size n xs ∈ m.facts) (hV : TV W v n) (hl : xs.length = n * size) : w.ownsRow W.heap.size e size v n xs := by
 refine ⟨hl, ?_⟩
 rcases hV with hV | ⟨g, cap, rfl, hg⟩
 ·exact .inl hV
 ·obtain ⟨_, o, ho, cap', cur, h1, rfl, h2, h3, h4, h5⟩ := h.fact _ hF g rfl
  obtain rfl : cap = cap' := by simpa [Value.ownBlock] using h1
  exact .inr ⟨g, cap, cur, rfl, hg, ho, h2, h3, h4, h5⟩
theorem fact_of_own {w : World} {base : Nat} {v : Value} {e : TypeId} {size n : Nat} {xs : List Value} (h : w.ownsRow base e size v n xs) : ∀ g, (ownF v e size n xs).g = some g → base ≤ g ∧ ∃ o, w.heap[g]? = some o ∧ (ownF v e size n xs).holds o := by
 intro g hg
 rcases h.2 with ⟨rfl, _⟩ | ⟨g', cap, cur, rfl, h1, h2, h3, h4, h5, h6⟩
 ·cases hg
 ·have e1 : g' = g := by simpa [ownF, Value.ownBlock] using hg
  subst e1
  exact ⟨h1, _, h2, cap, cur, rfl, rfl, h3, h4, h5, h6⟩
theorem tv_of_own {w : World} {v : Value} {e : TypeId} {size n : Nat} {xs : List Value} (h : w.ownsRow W.heap.size e size v n xs) : TV W v n := by
 rcases h.2 with h | ⟨g', cap, cur, rfl, h1, _⟩
 ·exact .inl h
 ·exact .inr ⟨_, _, rfl, h1⟩
end
end Go.Proofs.YtofpmnkkimgkfaaGreatDoor.Sx
