import Derived.Test.YthjlilepialmoaaSatRef
namespace Go.Proofs.Ythjlilepialmoaa.satOrder
open Go.RowKit Go.ChangeShapes Go.WideShapes sat
set_option linter.unusedVariables false

theorem addOk_comm (a b m : Int) : AddOk b a m ↔ AddOk a b m := by unfold AddOk; omega
theorem mulOk_comm (a b m : Int) : MulOk b a m ↔ MulOk a b m := by
  unfold MulOk
  rw [Int.mul_comm]
  exact ⟨fun h => ⟨h.2.1, h.1, h.2.2⟩, fun h => ⟨h.2.1, h.1, h.2.2⟩⟩
theorem addV_comm (a b m : Int) : addV b a m = addV a b m := by
  unfold addV
  simp only [addOk_comm a b m, Int.add_comm b a]
theorem addB_comm (a b m : Int) : addB b a m = addB a b m := by
  unfold addB
  simp only [addOk_comm a b m]
theorem mulV_comm (a b m : Int) : mulV b a m = mulV a b m := by
  unfold mulV
  simp only [mulOk_comm a b m, Int.mul_comm b a]
theorem mulB_comm (a b m : Int) : mulB b a m = mulB a b m := by
  unfold mulB
  simp only [mulOk_comm a b m]

abbrev AddIs (a b m c : Int) (x : Bool) : Prop := ∀ w, Calls Try.prog 15 #[.int .i64 a, .int .i64 b, .int .i64 m] w fun e w' => e = .returned (.tuple #[.int .i64 c, .bool x]) ∧ w = w'
abbrev MulIs (a b m c : Int) (x : Bool) : Prop := ∀ w, Calls Try.prog 17 #[.int .i64 a, .int .i64 b, .int .i64 m] w fun e w' => e = .returned (.tuple #[.int .i64 c, .bool x]) ∧ w = w'

theorem below_one {w w1 : World} {o : Obj} (hb : Below (w.alloc o).heap.size (w.alloc o) w1) : Below w.heap.size w w1 :=
  ((Below.refl _ _).alloc (Nat.le_refl _) _).trans (hb.mono (by simp))

set_option maxHeartbeats 2000000 in
theorem early (a b m n c d : Int) (x y : Bool) (w : World) (h : n < m)
    (HA : Hid (AddIs a b m c x)) (HA' : Hid (AddIs b a m c x)) (HM : Hid (MulIs a b m d y)) (HM' : Hid (MulIs b a m d y)) :
    Calls Try.prog 5 #[.int .i64 a, .int .i64 b, .agg #[.int .i64 m, .int .i64 n]] w fun e w' => e = .returned (.bool true) ∧ Below w.heap.size w w' := by
  go_enter Try.func5, Try.ntmps5
  go_wp2_with fail
  refine (HA.out _).mono ?_
  rintro e w' ⟨rfl, rfl⟩
  go_wp2_with fail
  refine (HA'.out _).mono ?_
  rintro e w' ⟨rfl, rfl⟩
  go_wp2_with fail
  refine (HM.out _).mono ?_
  rintro e w' ⟨rfl, rfl⟩
  go_wp2_with fail
  refine (HM'.out _).mono ?_
  rintro e w' ⟨rfl, rfl⟩
  go_wp2_with fail
  refine (live_true _).mono ?_
  rintro e w' ⟨rfl, hb⟩
  go_wp2_with fail
  go_ret
  exact ⟨rfl, below_one hb⟩

set_option maxHeartbeats 2000000 in
theorem core (a b m n c d g h : Int) (x y p q : Bool) (w : World) (hmn : ¬ n < m)
    (HA : Hid (AddIs a b m c x)) (HA' : Hid (AddIs b a m c x)) (HM : Hid (MulIs a b m d y)) (HM' : Hid (MulIs b a m d y)) (HG : Hid (AddIs a b n g p)) (HH : Hid (MulIs a b n h q))
    (hx : x = false ∨ (x = true ∧ p = true ∧ g = c ∧ a ≤ c ∧ b ≤ c ∧ c ≤ m)) (hy : y = false ∨ (y = true ∧ q = true ∧ h = d)) :
    Calls Try.prog 5 #[.int .i64 a, .int .i64 b, .agg #[.int .i64 m, .int .i64 n]] w fun e w' => e = .returned (.bool true) ∧ Below w.heap.size w w' := by
  rcases hx with rfl | ⟨rfl, rfl, rfl, x1, x2, x3⟩ <;> rcases hy with rfl | ⟨rfl, rfl, rfl⟩
  all_goals
    go_enter Try.func5, Try.ntmps5
    go_wp2_with fail
    refine (HA.out _).mono ?_
    rintro e w' ⟨rfl, rfl⟩
    go_wp2_with fail
    refine (HA'.out _).mono ?_
    rintro e w' ⟨rfl, rfl⟩
    go_wp2_with fail
    refine (HM.out _).mono ?_
    rintro e w' ⟨rfl, rfl⟩
    go_wp2_with fail
    refine (HM'.out _).mono ?_
    rintro e w' ⟨rfl, rfl⟩
    go_wp2_with fail
    refine (HG.out _).mono ?_
    rintro e w' ⟨rfl, rfl⟩
    go_wp2_with fail
    refine (HH.out _).mono ?_
    rintro e w' ⟨rfl, rfl⟩
    go_wp2_with fail
    refine (live_true _).mono ?_
    rintro e w' ⟨rfl, hb⟩
    go_wp2_with fail
    go_ret
    exact ⟨rfl, below_one hb⟩

theorem walk (a b m n : Int) (w : World) (wa : (Lit.int .i64 a).wf = true) (wb : (Lit.int .i64 b).wf = true) (wm : (Lit.int .i64 m).wf = true ∧ (Lit.int .i64 n).wf = true) :
    Calls Try.prog 5 #[.int .i64 a, .int .i64 b, .agg #[.int .i64 m, .int .i64 n]] w fun e w' => e = .returned (.bool true) ∧ Below w.heap.size w w' := by
  have fa := fits_of wa
  have fb := fits_of wb
  have fm := fits_of wm.1
  have fn := fits_of wm.2
  have HA : AddIs a b m (addV a b m) (addB a b m) := fun w => add_any a b m w fa fb fm
  have HA' : AddIs b a m (addV a b m) (addB a b m) := fun w => by rw [← addV_comm, ← addB_comm]; exact add_any b a m w fb fa fm
  have HM : MulIs a b m (mulV a b m) (mulB a b m) := fun w => mul_any a b m w fm
  have HM' : MulIs b a m (mulV a b m) (mulB a b m) := fun w => by rw [← mulV_comm, ← mulB_comm]; exact mul_any b a m w fm
  by_cases h : n < m
  · exact early a b m n _ _ _ _ w h (Lib.hid HA) (Lib.hid HA') (Lib.hid HM) (Lib.hid HM')
  · refine core a b m n _ _ (addV a b n) (mulV a b n) _ _ (addB a b n) (mulB a b n) w h (Lib.hid HA) (Lib.hid HA') (Lib.hid HM) (Lib.hid HM') (Lib.hid fun w => add_any a b n w fa fb fn) (Lib.hid fun w => mul_any a b n w fn) ?_ ?_
    · by_cases k : AddOk a b m
      · have k' : AddOk a b n := by unfold AddOk at k ⊢; omega
        rw [show addV a b m = a + b from if_pos k, show addV a b n = a + b from if_pos k']
        unfold AddOk at k
        exact Or.inr ⟨decide_eq_true k, decide_eq_true k', rfl, by omega, by omega, k.2.2⟩
      · exact Or.inl (decide_eq_false k)
    · by_cases k : MulOk a b m
      · have k' : MulOk a b n := by unfold MulOk at k ⊢; omega
        rw [show mulV a b m = a * b from if_pos k, show mulV a b n = a * b from if_pos k']
        exact Or.inr ⟨decide_eq_true k, decide_eq_true k', rfl⟩
      · exact Or.inl (decide_eq_false k)
end Go.Proofs.Ythjlilepialmoaa.satOrder
