import Derived.Test.YthjlilepialmoaaSatRef
namespace Go.Proofs.Ythjlilepialmoaa.satBounds
open Go.RowKit Go.ChangeShapes Go.WideShapes sat
set_option linter.unusedVariables false

/-- What a product that is told comes to, held against its parts. -/
theorem mul_facts (a b d : Int) (h0 : 0 ≤ a) (h1 : 0 ≤ b) (e : d = a * b) : a = 0 ∨ b = 0 ∨ (1 ≤ a ∧ 1 ≤ b ∧ a ≤ d ∧ b ≤ d ∧ d / a = b ∧ d % a = 0) := by
  by_cases ha : a = 0
  · exact Or.inl ha
  by_cases hb : b = 0
  · exact Or.inr (Or.inl hb)
  refine Or.inr (Or.inr ⟨by omega, by omega, ?_, ?_, ?_, ?_⟩)
  · have : a * 1 ≤ a * b := Int.mul_le_mul_of_nonneg_left (by omega) h0
    omega
  · have : 1 * b ≤ a * b := Int.mul_le_mul_of_nonneg_right (by omega) h1
    omega
  · rw [e]; exact Int.mul_ediv_cancel_left _ ha
  · rw [e]; exact Int.mul_emod_right _ _


set_option maxHeartbeats 2000000 in
theorem core (a b m c d : Int) (x y : Bool) (w : World) (fa : -9223372036854775808 ≤ a ∧ a ≤ 9223372036854775807) (fb : -9223372036854775808 ≤ b ∧ b ≤ 9223372036854775807) (fm : m ≤ 9223372036854775807)
    (HA : Hid (∀ w, Calls Try.prog 15 #[.int .i64 a, .int .i64 b, .int .i64 m] w fun e w' => e = .returned (.tuple #[.int .i64 c, .bool x]) ∧ w = w'))
    (HM : Hid (∀ w, Calls Try.prog 17 #[.int .i64 a, .int .i64 b, .int .i64 m] w fun e w' => e = .returned (.tuple #[.int .i64 d, .bool y]) ∧ w = w'))
    (hx : (x = false ∧ c = 0) ∨ (x = true ∧ 0 ≤ a ∧ a ≤ c ∧ b ≤ c ∧ c ≤ m ∧ (c - a != b) = false))
    (hy : (y = false ∧ d = 0) ∨ (y = true ∧ 0 ≤ d ∧ d ≤ m ∧ ((a == 0) = true ∨ ((a == 0) = false ∧ (b == 0) = true) ∨ ((a == 0) = false ∧ (b == 0) = false ∧ 1 ≤ a ∧ a ≤ d ∧ b ≤ d ∧ (d / a == b) = true ∧ (d % a == 0) = true)))) :
    Calls Try.prog 7 #[.int .i64 a, .int .i64 b, .int .i64 m] w fun e w' => e = .returned (.bool true) ∧ Below w.heap.size w w' := by
  rcases hx with ⟨rfl, rfl⟩ | ⟨rfl, x0, x1, x2, x3, x4⟩ <;> rcases hy with ⟨rfl, rfl⟩ | ⟨rfl, y0, y1, y2 | ⟨y2, y3⟩ | ⟨y2, y3, y4, y5, y6, y7, y8⟩⟩
  all_goals
    go_enter Try.func7, Try.ntmps7
    go_wp2_with fail
    refine (HA.out _).mono ?_
    rintro e w' ⟨rfl, rfl⟩
    go_wp2_with fail
    refine (HM.out _).mono ?_
    rintro e w' ⟨rfl, rfl⟩
    go_wp2_with fail
    refine (live_true _).mono ?_
    rintro e w' ⟨rfl, hb⟩
    go_wp2_with fail
    go_ret
    exact ⟨rfl, hb⟩

theorem walk (a b m : Int) (w : World) (wa : (Lit.int .i64 a).wf = true) (wb : (Lit.int .i64 b).wf = true) (wm : (Lit.int .i64 m).wf = true) :
    Calls Try.prog 7 #[.int .i64 a, .int .i64 b, .int .i64 m] w fun e w' => e = .returned (.bool true) ∧ Below w.heap.size w w' := by
  have fa := bounds_i64 wa
  have fb := bounds_i64 wb
  have fm := bounds_i64 wm
  refine core a b m (addV a b m) (mulV a b m) (addB a b m) (mulB a b m) w fa fb fm.2 (Lib.hid fun w => add_any a b m w fa fb fm) (Lib.hid fun w => mul_any a b m w fm) ?_ ?_
  · by_cases h : AddOk a b m
    · rw [show addV a b m = a + b from if_pos h, show addB a b m = true from decide_eq_true h]
      unfold AddOk at h
      refine Or.inr ⟨rfl, h.1, by omega, by omega, h.2.2, ?_⟩
      rw [bne_eq_false_iff_eq]
      omega
    · exact Or.inl ⟨decide_eq_false h, if_neg h⟩
  · by_cases h : MulOk a b m
    · rw [show mulV a b m = a * b from if_pos h, show mulB a b m = true from decide_eq_true h]
      unfold MulOk at h
      refine Or.inr ⟨rfl, Int.mul_nonneg h.1 h.2.1, h.2.2, ?_⟩
      rcases mul_facts a b (a * b) h.1 h.2.1 rfl with z | z | ⟨z1, z2, z3, z4, z5, z6⟩
      · exact Or.inl (by simpa using z)
      · by_cases z0 : a = 0
        · exact Or.inl (by simpa using z0)
        · exact Or.inr (Or.inl ⟨by simpa using z0, by simpa using z⟩)
      · exact Or.inr (Or.inr ⟨beq_eq_false_iff_ne.2 (by omega), beq_eq_false_iff_ne.2 (by omega), z1, z3, z4, beq_iff_eq.2 z5, beq_iff_eq.2 z6⟩)
    · exact Or.inl ⟨decide_eq_false h, if_neg h⟩
end Go.Proofs.Ythjlilepialmoaa.satBounds
