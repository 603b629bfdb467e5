/- Layer 1: Raise, of the code and of the document, by contract. -/
import Derived.Test.YtjhopkamfeadjaaDoorChecked
import Derived.WalkKit
import Derived.ProofKit
import Derived.WalkLawsBesides
import Derived.Lib.Hide
import Derived.Test.YtjhopkamfeadjaaDoorChecked
namespace Go.Proofs.YtjhopkamfeadjaaDoor.rz
open Go.RowKit

open Go.RowKit Go.ChangeShapes Go.WideShapes
set_option linter.unusedVariables false
set_option linter.unusedSimpArgs false

theorem within_yes (n m : Int) (w : World) (h : 0 ≤ n) (h' : n ≤ m) :
    Calls Tryd.prog 83 #[.int .i64 n, .int .i64 m] w fun e w' => e = .returned (.bool true) ∧ w = w' := by
  go_enter Tryd.func83, Tryd.ntmps83
  go_wp2
  go_ret
  exact ⟨rfl, rfl⟩
theorem within_no (n m : Int) (w : World) (h : n < 0 ∨ m < n) :
    Calls Tryd.prog 83 #[.int .i64 n, .int .i64 m] w fun e w' => e = .returned (.bool false) ∧ w = w' := by
  by_cases h0 : n < 0
  · go_enter Tryd.func83, Tryd.ntmps83
    go_wp2
    go_ret
    exact ⟨rfl, rfl⟩
  · have h1 : decide (n ≤ m) = false := by simp; omega
    have h2 : 0 ≤ n := by omega
    clear h h0
    go_enter Tryd.func83, Tryd.ntmps83
    go_wp2
    go_ret
    exact ⟨rfl, rfl⟩
theorem ret_int {k : IntKind} {a b : Int} (h : a = b) : Ending.returned (.int k a) = .returned (.int k b) := by rw [h]
theorem ret_two {k : IntKind} {a b : Int} {c : Bool} (h : a = b) : Ending.returned (.tuple #[.int k a, .bool c]) = .returned (.tuple #[.int k b, .bool c]) := by rw [h]
/-- What a tip is raised to. -/
def raised (t p : Int) : Int := if t + 1 < (t * (100 + p) + 99) / 100 then (t * (100 + p) + 99) / 100 else t + 1
theorem prod_le (t p : Int) (c1 : 0 ≤ t) (c2 : t ≤ 1099511627776) (c3 : 0 ≤ p) (c4 : p ≤ 100) : 0 ≤ t * (100 + p) ∧ t * (100 + p) ≤ 219902325555200 ∧ 100 * t ≤ t * (100 + p) := by
  have h1 : t * (100 + p) ≤ 1099511627776 * (100 + p) := Int.mul_le_mul_of_nonneg_right c2 (by omega)
  have h2 : 0 ≤ t * p := Int.mul_nonneg c1 c3
  have h3 : t * (100 + p) = t * 100 + t * p := Int.mul_add _ _ _
  omega
def RaiseIn (t p : Int) : Prop := 0 ≤ t ∧ t ≤ 1099511627776 ∧ 0 ≤ p ∧ p ≤ 100
instance (t p : Int) : Decidable (RaiseIn t p) := by unfold RaiseIn; exact inferInstance
def RaiseOk (t p : Int) : Prop := RaiseIn t p ∧ raised t p ≤ 1099511627776
instance (t p : Int) : Decidable (RaiseOk t p) := by unfold RaiseOk; exact inferInstance
def raiseV (t p : Int) : Int := if RaiseOk t p then raised t p else 0
def raiseB (t p : Int) : Bool := decide (RaiseOk t p)
theorem ret_pair {k : IntKind} {a b : Int} {c x : Bool} (h : a = b) (h' : c = x) : Ending.returned (.tuple #[.int k a, .bool c]) = .returned (.tuple #[.int k b, .bool x]) := by rw [h, h']
end Go.Proofs.YtjhopkamfeadjaaDoor.rz
