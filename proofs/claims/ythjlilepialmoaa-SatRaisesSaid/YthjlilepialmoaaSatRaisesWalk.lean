import Derived.Test.YthjlilepialmoaaSatRef
import Derived.Test.YthjlilepialmoaaSatOrderWalk
namespace Go.Proofs.Ythjlilepialmoaa.satRaises
open Go.RowKit Go.ChangeShapes Go.WideShapes sat
set_option linter.unusedVariables false
abbrev RaiseIs (a b c : Int) (x : Bool) : Prop := ∀ w, Calls Try.prog 19 #[.int .i64 a, .int .i64 b] w fun e w' => e = .returned (.tuple #[.int .i64 c, .bool x]) ∧ w = w'

theorem raised_facts (t p : Int) (h0 : 0 ≤ t) (h1 : t ≤ 1099511627776) (h2 : 0 ≤ p) (h3 : p ≤ 100) (h4 : sat.raised t p ≤ 1099511627776) :
    t < sat.raised t p ∧ t * (100 + p) ≤ 100 * sat.raised t p ∧ (t + 1 < sat.raised t p → 100 * (sat.raised t p - 1) < t * (100 + p)) := by
  have := prod_le t p h0 h1 h2 h3
  unfold sat.raised
  split <;> omega

theorem raised_mono (t p l k : Int) (h0 : 0 ≤ l) (h1 : l ≤ t) (h2 : 0 ≤ k) (h3 : k ≤ p) : sat.raised (t - l) (p - k) ≤ sat.raised t p := by
  have e1 : (t - l) * (100 + (p - k)) ≤ t * (100 + (p - k)) := Int.mul_le_mul_of_nonneg_right (by omega) (by omega)
  have e2 : t * (100 + (p - k)) ≤ t * (100 + p) := Int.mul_le_mul_of_nonneg_left (by omega) (by omega)
  unfold sat.raised
  split <;> split <;> omega

set_option maxHeartbeats 2000000 in
theorem no (t p l k : Int) (w : World) (HR : Hid (RaiseIs t p 0 false)) :
    Calls Try.prog 6 #[.int .i64 t, .int .i64 p, .agg #[.int .i64 l, .int .i64 k]] w fun e w' => e = .returned (.bool true) ∧ Below w.heap.size w w' := by
  go_enter Try.func6, Try.ntmps6
  go_wp2_with fail
  refine (HR.out _).mono ?_
  rintro e w' ⟨rfl, rfl⟩
  go_wp2_with fail
  refine (live_true _).mono ?_
  rintro e w' ⟨rfl, hb⟩
  go_wp2_with fail
  go_ret
  exact ⟨rfl, satOrder.below_one hb⟩

set_option maxHeartbeats 2000000 in
theorem yes (t p l k a b h : Int) (w : World) (h0 : 0 ≤ t) (h1 : t ≤ 1099511627776) (h2 : 0 ≤ p) (h3 : p ≤ 100) (HR : Hid (RaiseIs t p a true)) (HB : Hid (0 ≤ l → l ≤ t → 0 ≤ k → k ≤ p → RaiseIs (t - l) (p - k) b true ∧ b ≤ a)) (E : Hid (t * (100 + p) = h)) (hl : 0 ≤ h ∧ h ≤ 219902325555200)
    (a0 : t < a) (a1 : a ≤ 1099511627776) (a2 : h ≤ 100 * a) (a3 : a ≤ t + 1 ∨ (t + 1 < a ∧ 100 * (a - 1) < h)) :
    Calls Try.prog 6 #[.int .i64 t, .int .i64 p, .agg #[.int .i64 l, .int .i64 k]] w fun e w' => e = .returned (.bool true) ∧ Below w.heap.size w w' := by
  have hp : 0 ≤ t * (100 + p) := by rw [E.out]; exact hl.1
  have hp' : t * (100 + p) ≤ 219902325555200 := by rw [E.out]; exact hl.2
  have a2' : t * (100 + p) ≤ 100 * a := by rw [E.out]; exact a2
  have a3' : a ≤ t + 1 ∨ (t + 1 < a ∧ 100 * (a - 1) < t * (100 + p)) := by rw [E.out]; exact a3
  clear a3 a2
  by_cases c : 0 ≤ l ∧ l ≤ t ∧ 0 ≤ k ∧ k ≤ p
  · obtain ⟨c0, c1, c2, c3⟩ := c
    obtain ⟨hb, hle⟩ := HB.out c0 c1 c2 c3
    have HB' := Lib.hid hb
    clear hb HB
    rcases a3' with a3' | ⟨a3', a4'⟩
    all_goals
      go_enter Try.func6, Try.ntmps6
      go_wp2_with fail
      refine (HR.out _).mono ?_
      rintro e w' ⟨rfl, rfl⟩
      go_wp2_with fail
      refine (HB'.out _).mono ?_
      rintro e w' ⟨rfl, rfl⟩
      go_wp2_with fail
      refine (live_true _).mono ?_
      rintro e w' ⟨rfl, hb⟩
      go_wp2_with fail
      go_ret
      exact ⟨rfl, satOrder.below_one hb⟩
  · have c' : l < 0 ∨ (0 ≤ l ∧ t < l) ∨ (0 ≤ l ∧ l ≤ t ∧ k < 0) ∨ (0 ≤ l ∧ l ≤ t ∧ 0 ≤ k ∧ p < k) := by omega
    clear c HB
    rcases a3' with a3' | ⟨a3', a4'⟩ <;> rcases c' with c0 | ⟨c0, c1⟩ | ⟨c0, c1, c2⟩ | ⟨c0, c1, c2, c3⟩
    all_goals
      go_enter Try.func6, Try.ntmps6
      go_wp2_with fail
      refine (HR.out _).mono ?_
      rintro e w' ⟨rfl, rfl⟩
      go_wp2_with fail
      refine (live_true _).mono ?_
      rintro e w' ⟨rfl, hb⟩
      go_wp2_with fail
      go_ret
      exact ⟨rfl, satOrder.below_one hb⟩

theorem walk (t p l k : Int) (w : World) (wt : (Lit.int .i64 t).wf = true) (wp : (Lit.int .i64 p).wf = true) (wl : (Lit.int .i64 l).wf = true ∧ (Lit.int .i64 k).wf = true) :
    Calls Try.prog 6 #[.int .i64 t, .int .i64 p, .agg #[.int .i64 l, .int .i64 k]] w fun e w' => e = .returned (.bool true) ∧ Below w.heap.size w w' := by
  have hR : RaiseIs t p (raiseV t p) (raiseB t p) := fun w => raise_any t p w
  by_cases h : RaiseOk t p
  · rw [show raiseV t p = sat.raised t p from if_pos h, show raiseB t p = true from decide_eq_true h] at hR
    obtain ⟨⟨h0, h1, h2, h3⟩, h4⟩ := h
    obtain ⟨g0, g1, g2⟩ := raised_facts t p h0 h1 h2 h3 h4
    obtain ⟨b0, b1, _⟩ := prod_le t p h0 h1 h2 h3
    refine yes t p l k (sat.raised t p) (sat.raised (t - l) (p - k)) (t * (100 + p)) w h0 h1 h2 h3 (Lib.hid hR) (Lib.hid fun c0 c1 c2 c3 => ?_) (Lib.hid rfl) ⟨b0, b1⟩ g0 h4 g1 (by omega)
    have hm := raised_mono t p l k c0 c1 c2 c3
    exact ⟨fun w => raise_yes _ _ w (by omega) (by omega) (by omega) (by omega) (by omega), hm⟩
  · rw [show raiseV t p = 0 from if_neg h, show raiseB t p = false from decide_eq_false h] at hR
    exact no t p l k w (Lib.hid hR)
end Go.Proofs.Ythjlilepialmoaa.satRaises
