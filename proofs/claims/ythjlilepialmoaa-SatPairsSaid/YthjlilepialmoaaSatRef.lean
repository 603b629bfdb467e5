/- The document's answers for layer 1 (hopperref01), by contract; and sat's own, in one form for all inputs. -/
import Derived.Test.YthjlilepialmoaaSatLive
import Derived.Test.YthjlilepialmoaaOpen
namespace Go.Proofs.Ythjlilepialmoaa.sat
open Go.RowKit Go.ChangeShapes Go.WideShapes

def AddOk (a b m : Int) : Prop := 0 ≤ a ∧ 0 ≤ b ∧ a + b ≤ m
instance (a b m : Int) : Decidable (AddOk a b m) := by unfold AddOk; exact inferInstance
def addV (a b m : Int) : Int := if AddOk a b m then a + b else 0
def addB (a b m : Int) : Bool := decide (AddOk a b m)
def MulOk (a b m : Int) : Prop := 0 ≤ a ∧ 0 ≤ b ∧ a * b ≤ m
instance (a b m : Int) : Decidable (MulOk a b m) := by unfold MulOk; exact inferInstance
def mulV (a b m : Int) : Int := if MulOk a b m then a * b else 0
def mulB (a b m : Int) : Bool := decide (MulOk a b m)
def RaiseIn (t p : Int) : Prop := 0 ≤ t ∧ t ≤ 1099511627776 ∧ 0 ≤ p ∧ p ≤ 100
instance (t p : Int) : Decidable (RaiseIn t p) := by unfold RaiseIn; exact inferInstance
def RaiseOk (t p : Int) : Prop := RaiseIn t p ∧ raised t p ≤ 1099511627776
instance (t p : Int) : Decidable (RaiseOk t p) := by unfold RaiseOk; exact inferInstance
def raiseV (t p : Int) : Int := if RaiseOk t p then raised t p else 0
def raiseB (t p : Int) : Bool := decide (RaiseOk t p)
def slotsV (n : Int) : Int := if 0 ≤ n ∧ n ≤ 400 then slotsOf n else 0

def Fits (n : Int) : Prop := -9223372036854775808 ≤ n ∧ n ≤ 9223372036854775807

theorem fits_of {n : Int} (h : (Lit.int .i64 n).wf = true) : Fits n := by
  have := bounds_i64 h
  unfold Fits
  omega

theorem add_any (a b m : Int) (w : World) (ha : Fits a) (hb : Fits b) (hm : Fits m) :
    Calls Try.prog 15 #[.int .i64 a, .int .i64 b, .int .i64 m] w fun e w' => e = .returned (.tuple #[.int .i64 (addV a b m), .bool (addB a b m)]) ∧ w = w' := by
  unfold Fits at ha hb hm
  by_cases h : AddOk a b m
  · rw [show addV a b m = a + b from if_pos h, show addB a b m = true from decide_eq_true h]
    unfold AddOk at h
    exact add_yes a b m w h.1 (by omega) h.2.1 h.2.2 hm.2
  · rw [show addV a b m = 0 from if_neg h, show addB a b m = false from decide_eq_false h]
    unfold AddOk at h
    exact add_no a b m w hb hm (by omega)

theorem mul_any (a b m : Int) (w : World) (hm : Fits m) :
    Calls Try.prog 17 #[.int .i64 a, .int .i64 b, .int .i64 m] w fun e w' => e = .returned (.tuple #[.int .i64 (mulV a b m), .bool (mulB a b m)]) ∧ w = w' := by
  unfold Fits at hm
  by_cases h : MulOk a b m
  · rw [show mulV a b m = a * b from if_pos h, show mulB a b m = true from decide_eq_true h]
    unfold MulOk at h
    exact mul_yes a b m w h.1 h.2.1 h.2.2 hm.2
  · rw [show mulV a b m = 0 from if_neg h, show mulB a b m = false from decide_eq_false h]
    unfold MulOk at h
    exact mul_no a b m w hm.2 (by omega)

theorem raise_any (t p : Int) (w : World) :
    Calls Try.prog 19 #[.int .i64 t, .int .i64 p] w fun e w' => e = .returned (.tuple #[.int .i64 (raiseV t p), .bool (raiseB t p)]) ∧ w = w' := by
  by_cases h : RaiseOk t p
  · rw [show raiseV t p = raised t p from if_pos h, show raiseB t p = true from decide_eq_true h]
    unfold RaiseOk RaiseIn at h
    exact raise_yes t p w h.1.1 h.1.2.1 h.1.2.2.1 h.1.2.2.2 h.2
  · rw [show raiseV t p = 0 from if_neg h, show raiseB t p = false from decide_eq_false h]
    unfold RaiseOk at h
    by_cases c : RaiseIn t p
    · have c' := c
      unfold RaiseIn at c'
      exact raise_most t p w c'.1 c'.2.1 c'.2.2.1 c'.2.2.2 (Int.not_le.1 fun hh => h ⟨c, hh⟩)
    · unfold RaiseIn at c
      exact raise_no t p w (by omega)

theorem slots_any (n : Int) (w : World) :
    Calls Try.prog 21 #[.int .i64 n] w fun e w' => e = .returned (.int .i64 (slotsV n)) ∧ w = w' := by
  by_cases h : 0 ≤ n ∧ n ≤ 400
  · rw [show slotsV n = slotsOf n from if_pos h]
    exact slots_yes n w h.1 h.2
  · rw [show slotsV n = 0 from if_neg h]
    exact slots_no n w (by omega)

/-! The document's own. -/
theorem radd_yes (a b m : Int) (w : World) (h0 : 0 ≤ a) (h1 : a ≤ m) (h2 : 0 ≤ b) (h3 : a + b ≤ m) (hm : m ≤ 9223372036854775807) :
    Calls Try.prog 16 #[.int .i64 a, .int .i64 b, .int .i64 m] w fun e w' => e = .returned (.tuple #[.int .i64 (a + b), .bool true]) ∧ w = w' := by
  go_enter Try.func16, Try.ntmps16
  go_wp2_with fail
  go_ret2
  exact ⟨rfl, rfl⟩

theorem radd_no (a b m : Int) (w : World) (hm : m ≤ 9223372036854775807) (h : a < 0 ∨ b < 0 ∨ m < a + b) :
    Calls Try.prog 16 #[.int .i64 a, .int .i64 b, .int .i64 m] w fun e w' => e = .returned (.tuple #[.int .i64 0, .bool false]) ∧ w = w' := by
  by_cases c0 : a < 0
  · go_enter Try.func16, Try.ntmps16
    go_wp2_with fail
    go_ret2
    exact ⟨rfl, rfl⟩
  by_cases c1 : b < 0
  · go_enter Try.func16, Try.ntmps16
    go_wp2_with fail
    go_ret2
    exact ⟨rfl, rfl⟩
  by_cases c2 : m < 0
  · clear h
    go_enter Try.func16, Try.ntmps16
    go_wp2_with fail
    go_ret2
    exact ⟨rfl, rfl⟩
  by_cases c3 : m < a
  · clear h
    go_enter Try.func16, Try.ntmps16
    go_wp2_with fail
    go_ret2
    exact ⟨rfl, rfl⟩
  have c4 : m - a < b := by omega
  clear h
  go_enter Try.func16, Try.ntmps16
  go_wp2_with fail
  go_ret2
  exact ⟨rfl, rfl⟩

theorem radd_any (a b m : Int) (w : World) (hm : Fits m) :
    Calls Try.prog 16 #[.int .i64 a, .int .i64 b, .int .i64 m] w fun e w' => e = .returned (.tuple #[.int .i64 (addV a b m), .bool (addB a b m)]) ∧ w = w' := by
  unfold Fits at hm
  by_cases h : AddOk a b m
  · rw [show addV a b m = a + b from if_pos h, show addB a b m = true from decide_eq_true h]
    unfold AddOk at h
    exact radd_yes a b m w h.1 (by omega) h.2.1 h.2.2 hm.2
  · rw [show addV a b m = 0 from if_neg h, show addB a b m = false from decide_eq_false h]
    unfold AddOk at h
    exact radd_no a b m w hm.2 (by omega)

theorem rmul_yes (a b m : Int) (w : World) (h0 : 0 ≤ a) (h1 : 0 ≤ b) (h2 : a * b ≤ m) (hm : m ≤ 9223372036854775807) :
    Calls Try.prog 18 #[.int .i64 a, .int .i64 b, .int .i64 m] w fun e w' => e = .returned (.tuple #[.int .i64 (a * b), .bool true]) ∧ w = w' := by
  have hp : 0 ≤ a * b := Int.mul_nonneg h0 h1
  by_cases c : 0 < a
  · have hd : b ≤ m / a := by
      rw [Int.le_ediv_iff_mul_le c, Int.mul_comm]; exact h2
    go_enter Try.func18, Try.ntmps18
    go_wp2_with fail
    go_ret2
    exact ⟨rfl, rfl⟩
  · go_enter Try.func18, Try.ntmps18
    go_wp2_with fail
    go_ret2
    exact ⟨rfl, rfl⟩

theorem rmul_no (a b m : Int) (w : World) (hm : m ≤ 9223372036854775807) (h : a < 0 ∨ b < 0 ∨ m < a * b) :
    Calls Try.prog 18 #[.int .i64 a, .int .i64 b, .int .i64 m] w fun e w' => e = .returned (.tuple #[.int .i64 0, .bool false]) ∧ w = w' := by
  by_cases ca : a < 0
  · go_enter Try.func18, Try.ntmps18
    go_wp2_with fail
    go_ret2
    exact ⟨rfl, rfl⟩
  by_cases cb : b < 0
  · go_enter Try.func18, Try.ntmps18
    go_wp2_with fail
    go_ret2
    exact ⟨rfl, rfl⟩
  have hmm : m < a * b := by omega
  by_cases cm : m < 0
  · clear hmm h
    go_enter Try.func18, Try.ntmps18
    go_wp2_with fail
    go_ret2
    exact ⟨rfl, rfl⟩
  have c : 0 < a := by
    rcases Int.lt_or_le 0 a with h | h
    · exact h
    · have : a = 0 := by omega
      subst this
      simp at hmm
      omega
  have hd : m / a < b := by
    rw [Int.ediv_lt_iff_lt_mul c, Int.mul_comm]; exact hmm
  clear hmm h
  go_enter Try.func18, Try.ntmps18
  go_wp2_with fail
  go_ret2
  exact ⟨rfl, rfl⟩

theorem rmul_any (a b m : Int) (w : World) (hm : Fits m) :
    Calls Try.prog 18 #[.int .i64 a, .int .i64 b, .int .i64 m] w fun e w' => e = .returned (.tuple #[.int .i64 (mulV a b m), .bool (mulB a b m)]) ∧ w = w' := by
  unfold Fits at hm
  by_cases h : MulOk a b m
  · rw [show mulV a b m = a * b from if_pos h, show mulB a b m = true from decide_eq_true h]
    unfold MulOk at h
    exact rmul_yes a b m w h.1 h.2.1 h.2.2 hm.2
  · rw [show mulV a b m = 0 from if_neg h, show mulB a b m = false from decide_eq_false h]
    unfold MulOk at h
    exact rmul_no a b m w hm.2 (by omega)

theorem rslots_any (n : Int) (w : World) :
    Calls Try.prog 22 #[.int .i64 n] w fun e w' => e = .returned (.int .i64 (slotsV n)) ∧ w = w' := by
  by_cases h : 0 ≤ n ∧ n ≤ 400
  · rw [show slotsV n = slotsOf n from if_pos h]
    go_enter Try.func22, Try.ntmps22
    go_wp2_with fail
    all_goals
      go_ret
      exact ⟨ret_int (by unfold slotsOf; split <;> omega), rfl⟩
  · rw [show slotsV n = 0 from if_neg h]
    by_cases c : n < 0
    · go_enter Try.func22, Try.ntmps22
      go_wp2_with fail
      go_ret
      exact ⟨rfl, rfl⟩
    · have c1 : 400 < n := by omega
      clear h
      go_enter Try.func22, Try.ntmps22
      go_wp2_with fail
      go_ret
      exact ⟨rfl, rfl⟩

theorem ret_pair {k : IntKind} {a b : Int} {c x : Bool} (h : a = b) (h' : c = x) : Ending.returned (.tuple #[.int k a, .bool c]) = .returned (.tuple #[.int k b, .bool x]) := by rw [h, h']

theorem rraise_in (t p r : Int) (x : Bool) (w : World) (c1 : 0 ≤ t) (c2 : t ≤ 1099511627776) (c3 : 0 ≤ p) (c4 : p ≤ 100) (H : Hid (r = raiseV t p ∧ x = raiseB t p)) :
    Calls Try.prog 20 #[.int .i64 t, .int .i64 p] w fun e w' => e = .returned (.tuple #[.int .i64 r, .bool x]) ∧ w = w' := by
  obtain ⟨b1, b2, b3⟩ := prod_le t p c1 c2 c3 c4
  have yes : raised t p ≤ 1099511627776 → raised t p = r ∧ true = x := by
    intro hh
    obtain ⟨h1, h2⟩ := H.out
    have : RaiseOk t p := ⟨⟨c1, c2, c3, c4⟩, hh⟩
    rw [h1, h2]
    exact ⟨(if_pos this).symm, (decide_eq_true this).symm⟩
  have no : 1099511627776 < raised t p → 0 = r ∧ false = x := by
    intro hh
    obtain ⟨h1, h2⟩ := H.out
    have : ¬ RaiseOk t p := fun k => by have := k.2; omega
    rw [h1, h2]
    exact ⟨(if_neg this).symm, (decide_eq_false this).symm⟩
  have Y := Lib.hid yes
  have N := Lib.hid no
  clear yes no H
  by_cases d0 : 0 < t * (100 + p) % 100
  · have e : raised t p = t * (100 + p) / 100 + 1 := by unfold raised; split <;> omega
    have E := Lib.hid e
    clear e
    by_cases d1 : 1099511627776 < t * (100 + p) / 100 + 1
    · have d2 : t + 1 ≤ t * (100 + p) / 100 + 1 := by omega
      go_enter Try.func20, Try.ntmps20
      go_wp2_with fail
      go_ret2
      exact ⟨ret_pair (N.out (by rw [E.out]; omega)).1 (N.out (by rw [E.out]; omega)).2, rfl⟩
    · have d2 : t + 1 ≤ t * (100 + p) / 100 + 1 := by omega
      go_enter Try.func20, Try.ntmps20
      go_wp2_with fail
      go_ret2
      exact ⟨ret_pair ((E.out).symm.trans (Y.out (by rw [E.out]; omega)).1) (Y.out (by rw [E.out]; omega)).2, rfl⟩
  · by_cases d1 : t * (100 + p) / 100 < t + 1
    · have e : raised t p = t + 1 := by unfold raised; split <;> omega
      have E := Lib.hid e
      clear e
      by_cases d2 : 1099511627776 < t + 1
      · go_enter Try.func20, Try.ntmps20
        go_wp2_with fail
        go_ret2
        exact ⟨ret_pair (N.out (by rw [E.out]; omega)).1 (N.out (by rw [E.out]; omega)).2, rfl⟩
      · go_enter Try.func20, Try.ntmps20
        go_wp2_with fail
        go_ret2
        exact ⟨ret_pair ((E.out).symm.trans (Y.out (by rw [E.out]; omega)).1) (Y.out (by rw [E.out]; omega)).2, rfl⟩
    · have e : raised t p = t * (100 + p) / 100 := by unfold raised; split <;> omega
      have E := Lib.hid e
      clear e
      by_cases d2 : 1099511627776 < t * (100 + p) / 100
      · go_enter Try.func20, Try.ntmps20
        go_wp2_with fail
        go_ret2
        exact ⟨ret_pair (N.out (by rw [E.out]; omega)).1 (N.out (by rw [E.out]; omega)).2, rfl⟩
      · go_enter Try.func20, Try.ntmps20
        go_wp2_with fail
        go_ret2
        exact ⟨ret_pair ((E.out).symm.trans (Y.out (by rw [E.out]; omega)).1) (Y.out (by rw [E.out]; omega)).2, rfl⟩

theorem rraise_any (t p : Int) (w : World) :
    Calls Try.prog 20 #[.int .i64 t, .int .i64 p] w fun e w' => e = .returned (.tuple #[.int .i64 (raiseV t p), .bool (raiseB t p)]) ∧ w = w' := by
  by_cases h : RaiseIn t p
  · unfold RaiseIn at h
    exact rraise_in t p _ _ w h.1 h.2.1 h.2.2.1 h.2.2.2 (Lib.hid ⟨rfl, rfl⟩)
  · rw [show raiseV t p = 0 from if_neg (fun k => h k.1), show raiseB t p = false from decide_eq_false (fun k => h k.1)]
    unfold RaiseIn at h
    by_cases d0 : t < 0
    · clear h
      go_enter Try.func20, Try.ntmps20
      go_wp2_with fail
      go_ret2
      exact ⟨rfl, rfl⟩
    by_cases d1 : 1099511627776 < t
    · clear h
      go_enter Try.func20, Try.ntmps20
      go_wp2_with fail
      go_ret2
      exact ⟨rfl, rfl⟩
    by_cases d2 : p < 0
    · clear h
      go_enter Try.func20, Try.ntmps20
      go_wp2_with fail
      go_ret2
      exact ⟨rfl, rfl⟩
    have d3 : 100 < p := by omega
    clear h
    go_enter Try.func20, Try.ntmps20
    go_wp2_with fail
    go_ret2
    exact ⟨rfl, rfl⟩
end Go.Proofs.Ythjlilepialmoaa.sat
