/- What hopperlaw01's own examples come to: live answers true. -/
import Derived.Test.YthjlilepialmoaaSat
import Derived.Test.YthjlilepialmoaaEq
namespace Go.Proofs.Ythjlilepialmoaa.sat
open Go.RowKit

/-- The pairs {1, 2}, {3, 4}. -/
def exX : Nat → Int := fun i => if i = 0 then 1 else 3
def exY : Nat → Int := fun i => if i = 0 then 2 else 4

theorem totals_ex (b cap : Nat) (w : World) (h0 : w.cell? ⟨b, 0, none⟩ = some (.int .i64 1)) (h1 : w.cell? ⟨b, 1, none⟩ = some (.int .i64 2)) (h2 : w.cell? ⟨b, 2, none⟩ = some (.int .i64 3)) (h3 : w.cell? ⟨b, 3, none⟩ = some (.int .i64 4)) :
    Calls Try.prog 24 #[.slice (some ⟨b, 0, none⟩) 2 cap] w fun e w' => e = .returned (.tuple #[.agg #[.int .i64 4, .int .i64 6], .bool true]) ∧ Below w.heap.size w w' := by
  refine (totals_yes b 0 2 cap exX exY w (by omega) ?_ ?_ ?_).mono ?_
  · intro i hi
    rcases (show i = 0 ∨ i = 1 by omega) with rfl | rfl
    · exact ⟨h0, h1⟩
    · exact ⟨h2, h3⟩
  · intro i _
    unfold exX
    split <;> omega
  · intro i _
    unfold exY
    split <;> omega
  · rintro e w' ⟨rfl, hb⟩
    exact ⟨by simp [sm, exX, exY], hb⟩

set_option maxHeartbeats 1000000 in
set_option maxRecDepth 100000 in
theorem live_true (w : World) :
    Calls Try.prog 23 #[] w fun e w' => e = .returned (.bool true) ∧ Below w.heap.size w w' := by
  have heq := fun w => eq_two 4 6 4 6 w
  go_enter Try.func23, Try.ntmps23
  go_wp2_with fail
  refine (add_yes 3 4 7 _ (by omega) (by omega) (by omega) (by omega) (by omega)).mono ?_
  rintro e w' ⟨rfl, rfl⟩
  go_wp2_with fail
  refine (add_no 3 5 7 _ (by omega) (by omega) (by omega)).mono ?_
  rintro e w' ⟨rfl, rfl⟩
  go_wp2_with fail
  refine (add_no 4611686018427387904 4611686018427387904 4611686018427387905 _ (by omega) (by omega) (by omega)).mono ?_
  rintro e w' ⟨rfl, rfl⟩
  go_wp2_with fail
  refine (mul_yes 3 5 15 _ (by omega) (by omega) (by omega) (by omega)).mono ?_
  rintro e w' ⟨rfl, rfl⟩
  go_wp2_with fail
  refine (mul_no 1099511627776 1099511627776 4611686018427387904 _ (by omega) (by omega)).mono ?_
  rintro e w' ⟨rfl, rfl⟩
  go_wp2_with fail
  refine (raise_yes 101 10 _ (by omega) (by omega) (by omega) (by omega) (by decide)).mono ?_
  rw [show raised 101 10 = 112 from by decide]
  rintro e w' ⟨rfl, rfl⟩
  go_wp2_with fail
  refine (raise_yes 0 100 _ (by omega) (by omega) (by omega) (by omega) (by decide)).mono ?_
  rw [show raised 0 100 = 1 from by decide]
  rintro e w' ⟨rfl, rfl⟩
  go_wp2_with fail
  refine (raise_most 1099511627776 0 _ (by omega) (by omega) (by omega) (by omega) (by decide)).mono ?_
  rintro e w' ⟨rfl, rfl⟩
  go_wp2_with fail
  refine (totals_ex _ _ _ (by simp) (by simp) (by simp) (by simp)).mono ?_
  rintro e w1 ⟨rfl, hb⟩
  go_wp2_with fail
  refine (slots_yes 0 _ (by omega) (by omega)).mono ?_
  rw [show slotsOf 0 = 1 from by decide]
  rintro e w' ⟨rfl, rfl⟩
  go_wp2_with fail
  refine (slots_yes 33 _ (by omega) (by omega)).mono ?_
  rw [show slotsOf 33 = 2 from by decide]
  rintro e w' ⟨rfl, rfl⟩
  go_wp2_with fail
  refine (slots_no (-1) _ (by omega)).mono ?_
  rintro e w' ⟨rfl, rfl⟩
  go_wp2_with fail
  go_ret
  exact ⟨rfl, (((Below.refl _ _).alloc (Nat.le_refl _) _).trans (hb.mono (by simp))).alloc (Nat.le_trans (by simp) hb.size) _⟩
end Go.Proofs.Ythjlilepialmoaa.sat
