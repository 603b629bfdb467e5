/- Totals of pairs: the code's, and the document's own (in seats where Slots lies). -/
import Derived.Test.YtjhopkamfeadjaaDoorChecked
import Derived.WalkKit
import Derived.ProofKit
import Derived.WalkLawsBesides
import Derived.Lib.Hide
import Derived.Test.YtjhopkamfeadjaaDoorFloat
import Derived.RegionTactic
import Derived.ChangeAlike
import Derived.Laws.Rows
namespace Go.Proofs.YtjhopkamfeadjaaDoor.satd
open Go.RowKit

theorem within_yes (n m : Int) (w : World) (h : 0 ≤ n) (h' : n ≤ m) :
    Calls Tryd.prog 83 #[.int .i64 n, .int .i64 m] w fun e w' => e = .returned (.bool true) ∧ w = w' := by
  go_enter Tryd.func83, Tryd.ntmps83
  go_wp2
  go_ret
  exact ⟨rfl, rfl⟩

theorem within_no (n m : Int) (w : World) (h : n < 0 ∨ m < n) :
    Calls Tryd.prog 83 #[.int .i64 n, .int .i64 m] w fun e w' => e = .returned (.bool false) ∧ w = w' := by
  by_cases h0 : n < 0
  · go_enter Tryd.func83, Tryd.ntmps83
    go_wp2
    go_ret
    exact ⟨rfl, rfl⟩
  · have h1 : decide (n ≤ m) = false := by simp; omega
    have h2 : 0 ≤ n := by omega
    clear h h0
    go_enter Tryd.func83, Tryd.ntmps83
    go_wp2
    go_ret
    exact ⟨rfl, rfl⟩

def sm (X : Nat → Int) : Nat → Int
  | 0 => 0
  | k + 1 => sm X k + X k

theorem sm_bd (X : Nat → Int) (n : Nat) (h : ∀ i, i < n → 0 ≤ X i ∧ X i ≤ 1099511627776) (k : Nat) (hk : k ≤ n) : 0 ≤ sm X k ∧ sm X k ≤ 1099511627776 * k := by
  induction k with
  | zero => simp [sm]
  | succ k ih =>
    have a := ih (by omega)
    have b := h k (by omega)
    simp only [sm]
    omega

/-- A slice of pairs as it lies: X the first ones, Y the second ones. -/
def PairsAt (w : World) (a : Option Addr) (len : Nat) (X Y : Nat → Int) : Prop :=
  len = 0 ∨ ∃ b off, a = some ⟨b, off, none⟩ ∧ ∀ i, i < len → w.cell? ⟨b, off + i * 2, none⟩ = some (.int .i64 (X i)) ∧ w.cell? ⟨b, off + i * 2 + 1, none⟩ = some (.int .i64 (Y i))

theorem lt_of_block {w : World} {k : Nat} {o : Obj} (h : w.heap[k]? = some o) : k < w.heap.size := (Array.getElem?_eq_some_iff.1 h).1

open flt in
/-- The first place at which something fails. -/
theorem first_bad (p : Nat → Prop) (n : Nat) (h : ¬ ∀ i, i < n → p i) : ∃ j, j < n ∧ ¬ p j ∧ ∀ i, i < j → p i := by
  induction n with
  | zero => exact absurd (fun i hi => absurd hi (Nat.not_lt_zero i)) h
  | succ n ih =>
    by_cases c : ∀ i, i < n → p i
    · refine ⟨n, by omega, fun hp => h fun i hi => ?_, c⟩
      by_cases e : i = n
      · subst e; exact hp
      · exact c i (by omega)
    · obtain ⟨j, h1, h2, h3⟩ := ih c
      exact ⟨j, by omega, h2, h3⟩

theorem two_kept (w : World) (n : Nat) (o : Obj) (x y a b : Value) (hn : n < w.heap.size) (g0 : w.cell? ⟨n, 0, none⟩ = some a) (g1 : w.cell? ⟨n, 1, none⟩ = some b) :
    (((w.setCell ⟨n, 0, none⟩ x).setCell ⟨n, 1, none⟩ y).alloc o).cell? ⟨n, 0, none⟩ = some x ∧ (((w.setCell ⟨n, 0, none⟩ x).setCell ⟨n, 1, none⟩ y).alloc o).cell? ⟨n, 1, none⟩ = some y := by
  have h1 : (w.setCell ⟨n, 0, none⟩ x).cell? ⟨n, 1, none⟩ = some b := by rw [World.cell?_setCell_other _ _ _ _ (by simp)]; exact g1
  constructor
  · rw [World.cell?_alloc_lt _ _ _ (by simpa using hn), World.cell?_setCell_other _ _ _ _ (by simp)]
    exact World.cell?_setCell_same _ _ _ g0
  · rw [World.cell?_alloc_lt _ _ _ (by simpa using hn)]
    exact World.cell?_setCell_same _ _ _ h1

open flt in
/-! In one form, for all pairs. -/
def TotOk (len : Nat) (X Y : Nat → Int) : Prop := len ≤ 1000 ∧ ∀ i, i < len → (0 ≤ X i ∧ X i ≤ 1099511627776) ∧ (0 ≤ Y i ∧ Y i ≤ 1099511627776)

instance (len : Nat) (X Y : Nat → Int) : Decidable (TotOk len X Y) := by unfold TotOk; exact inferInstance

def totX (len : Nat) (X Y : Nat → Int) : Int := if TotOk len X Y then sm X len else 0
def totY (len : Nat) (X Y : Nat → Int) : Int := if TotOk len X Y then sm Y len else 0
def totB (len : Nat) (X Y : Nat → Int) : Bool := decide (TotOk len X Y)

/-- A part of a slice of pairs. -/
def Row (w : World) (a : Option Addr) (len : Nat) (X Y : Nat → Int) : Prop :=
  len ≤ maxLen ∧ (len = 0 ∨ ∃ b off, a = some ⟨b, off, none⟩ ∧ ∀ i, i < len → w.cell? ⟨b, off + i * 2, none⟩ = some (.int .i64 (X i)) ∧ w.cell? ⟨b, off + i * 2 + 1, none⟩ = some (.int .i64 (Y i)))

theorem bad_of {len : Nat} {X Y : Nat → Int} (hl : len ≤ 1000) (h : ¬ TotOk len X Y) :
    ∃ j, j < len ∧ ((X j < 0 ∨ 1099511627776 < X j) ∨ (Y j < 0 ∨ 1099511627776 < Y j)) ∧ (∀ i, i < j → 0 ≤ X i ∧ X i ≤ 1099511627776) ∧ ∀ i, i < j → 0 ≤ Y i ∧ Y i ≤ 1099511627776 := by
  obtain ⟨j, h1, h2, h3⟩ := first_bad (fun i => (0 ≤ X i ∧ X i ≤ 1099511627776) ∧ (0 ≤ Y i ∧ Y i ≤ 1099511627776)) len (fun hh => h ⟨hl, hh⟩)
  exact ⟨j, h1, by omega, fun i hi => (h3 i hi).1, fun i hi => (h3 i hi).2⟩

theorem tot_yes {len : Nat} {X Y : Nat → Int} (h : TotOk len X Y) : totX len X Y = sm X len ∧ totY len X Y = sm Y len ∧ totB len X Y = true := ⟨if_pos h, if_pos h, decide_eq_true h⟩
theorem tot_no {len : Nat} {X Y : Nat → Int} (h : ¬ TotOk len X Y) : totX len X Y = 0 ∧ totY len X Y = 0 ∧ totB len X Y = false := ⟨if_neg h, if_neg h, decide_eq_false h⟩

end Go.Proofs.YtjhopkamfeadjaaDoor.satd
