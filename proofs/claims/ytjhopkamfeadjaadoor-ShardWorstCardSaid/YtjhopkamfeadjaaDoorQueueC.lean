/- Layer 5 (queue): parts of rows; advances. -/
import Derived.Test.YtjhopkamfeadjaaDoorQueueL
namespace Go.Proofs.YtjhopkamfeadjaaDoor.queue
open Go.RowKit Sx txn
set_option linter.unusedVariables false
set_option linter.unusedSimpArgs false

theorem at_take {w : World} {a : Option Addr} {xs : List Value} (h : At w a xs) (k : Nat) : At w a (xs.take k) := by
  intro g hg
  obtain ⟨o, ho, hp⟩ := h g hg
  refine ⟨o, ho, fun ad had => ?_⟩
  obtain ⟨h1, cur, e, fr, h2, h3⟩ := hp ad had
  refine ⟨h1, cur, e, fr, h2, fun j u hu => h3 j u ?_⟩
  rw [List.getElem?_take] at hu
  split at hu
  · exact hu
  · cases hu
theorem at_drop {w : World} {a : Option Addr} {xs : List Value} (h : At w a xs) (k : Nat) : At w (a.map fun x => x.add k) (xs.drop k) := by
  cases a with
  | none => intro g hg; cases hg
  | some ad =>
    obtain ⟨b, off, sp⟩ := ad
    obtain ⟨o, ho, hp⟩ := h b rfl
    obtain ⟨h1, cur, e, fr, h2, h3⟩ := hp _ rfl
    simp only [] at h1
    subst h1
    show At w (some ((⟨b, off, none⟩ : Addr).add k)) _
    rw [Sx.add_mk]
    intro g hg
    cases hg
    refine ⟨o, ho, fun ad2 had => ?_⟩
    cases had
    refine ⟨rfl, cur, e, fr, h2, fun j u hu => ?_⟩
    rw [List.getElem?_drop] at hu
    have := h3 _ _ hu
    simpa [Nat.add_assoc] using this

def advV (x y : Int) : Int := if inB y 0 4294967295 = false then 1 else if y < x then 3 else 0
/-- What was shared at the end lies above all that was there. -/
theorem giveF {W : World} {m : M} {β ρ} {w' : World} {a : Option Addr} {xs : List Value} (n : Nat) (hM : Mem W none m β ρ w') (hm : rowF a xs ∈ m.facts) (hf : Fresh W none a) :
    ∀ g, (rowF (pt a n) xs).g = some g → W.heap.size ≤ g ∧ ∃ o, w'.heap[g]? = some o ∧ (rowF (pt a n) xs).holds o := by
  by_cases h : n = 0
  · rw [show pt a n = none from if_pos h]
    intro g hg
    cases hg
  · rw [show pt a n = a from if_neg h]
    intro g hg
    refine ⟨?_, hM.at_ hm g hg⟩
    cases a with
    | none => cases hg
    | some ad =>
      cases hg
      rcases hf ad rfl with h1 | h1
      · exact h1
      · cases h1

def below (y : Int) (l : List Tx) : List Tx := l.filter fun x => decide (x.n < y)
def above (y : Int) (l : List Tx) : List Tx := l.filter fun x => !decide (x.n < y)
theorem filt_take (p : Tx → Bool) (l : List Tx) (k : Nat) (x : Tx) (h : l[k]? = some x) : (l.take (k + 1)).filter p = (l.take k).filter p ++ (if p x then [x] else []) := by
  rw [List.take_add_one, h]
  by_cases q : p x <;> simp [q]
theorem filt_len (p : Tx → Bool) (l : List Tx) (k : Nat) : ((l.take k).filter p).length ≤ l.length := by
  have h1 := List.length_filter_le p (l.take k)
  have h2 : (l.take k).length ≤ l.length := List.length_take_le' _ _
  omega
theorem cellsL_snoc (l : List Tx) (x : Tx) : cellsL (l ++ [x]) = cellsL l ++ cellsX x := by simp [cellsL]
/-- An account as a value. -/
def acc (s b : Int) (a : Option Addr) (n c : Nat) : Value := .agg #[.int .i64 s, .int .i64 b, .slice a n c]
abbrev Two := (Option Addr × Nat) × (Option Addr × Nat)
end Go.Proofs.YtjhopkamfeadjaaDoor.queue
