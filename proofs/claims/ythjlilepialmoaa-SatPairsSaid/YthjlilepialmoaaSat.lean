import Derived.Test.YthjlilepialmoaaChecked
import Derived.WalkKit
import Derived.ProofKit
import Derived.WalkLawsBesides
import Derived.Lib.Hide
import Derived.Test.YthjlilepialmoaaFloat
namespace Go.Proofs.Ythjlilepialmoaa.sat
open Go.RowKit

theorem within_yes (n m : Int) (w : World) (h : 0 ≤ n) (h' : n ≤ m) :
    Calls Try.prog 35 #[.int .i64 n, .int .i64 m] w fun e w' => e = .returned (.bool true) ∧ w = w' := by
  go_enter Try.func35, Try.ntmps35
  go_wp2
  go_ret
  exact ⟨rfl, rfl⟩

theorem within_no (n m : Int) (w : World) (h : n < 0 ∨ m < n) :
    Calls Try.prog 35 #[.int .i64 n, .int .i64 m] w fun e w' => e = .returned (.bool false) ∧ w = w' := by
  by_cases h0 : n < 0
  · go_enter Try.func35, Try.ntmps35
    go_wp2
    go_ret
    exact ⟨rfl, rfl⟩
  · have h1 : decide (n ≤ m) = false := by simp; omega
    have h2 : 0 ≤ n := by omega
    clear h h0
    go_enter Try.func35, Try.ntmps35
    go_wp2
    go_ret
    exact ⟨rfl, rfl⟩

theorem add_yes (a b m : Int) (w : World) (h0 : 0 ≤ a) (h1 : a ≤ m) (h2 : 0 ≤ b) (h3 : a + b ≤ m) (hm : m ≤ 9223372036854775807) :
    Calls Try.prog 15 #[.int .i64 a, .int .i64 b, .int .i64 m] w fun e w' => e = .returned (.tuple #[.int .i64 (a + b), .bool true]) ∧ w = w' := by
  go_enter Try.func15, Try.ntmps15
  go_wp2_with (first | (go_at_call 35; refine (within_yes _ _ _ (by omega) (by omega)).mono ?_; rintro e w' ⟨rfl, rfl⟩))
  go_ret2
  exact ⟨rfl, rfl⟩

theorem add_no (a b m : Int) (w : World) (hb : -9223372036854775808 ≤ b ∧ b ≤ 9223372036854775807) (hm : -9223372036854775808 ≤ m ∧ m ≤ 9223372036854775807) (h : a < 0 ∨ b < 0 ∨ m < a + b) :
    Calls Try.prog 15 #[.int .i64 a, .int .i64 b, .int .i64 m] w fun e w' => e = .returned (.tuple #[.int .i64 0, .bool false]) ∧ w = w' := by
  by_cases c : a < 0 ∨ m < a
  · go_enter Try.func15, Try.ntmps15
    go_wp2_with (first | (go_at_call 35; refine (within_no _ _ _ c).mono ?_; rintro e w' ⟨rfl, rfl⟩))
    go_ret2
    exact ⟨rfl, rfl⟩
  · have c1 : 0 ≤ a := by omega
    have c2 : a ≤ m := by omega
    have c3 : b < 0 ∨ m - a < b := by omega
    clear h c
    go_enter Try.func15, Try.ntmps15
    go_wp2_with fail
    refine (within_yes _ _ _ c1 c2).mono ?_
    rintro e w' ⟨rfl, rfl⟩
    go_wp2_with fail
    refine (within_no _ _ _ c3).mono ?_
    rintro e w' ⟨rfl, rfl⟩
    go_wp2_with fail
    go_ret2
    exact ⟨rfl, rfl⟩


theorem div_fits (a b m : Int) (ha : 0 < a) (hb : 0 ≤ b) (h : b ≤ m / a) (hm : m ≤ 9223372036854775807) : 0 ≤ a * b ∧ a * b ≤ m ∧ a * b ≤ 9223372036854775807 := by
  have h1 : a * b ≤ a * (m / a) := Int.mul_le_mul_of_nonneg_left h (by omega)
  have h2 : a * (m / a) ≤ m := Int.mul_ediv_self_le (by omega)
  exact ⟨Int.mul_nonneg (by omega) hb, by omega, by omega⟩

theorem mul_yes (a b m : Int) (w : World) (h0 : 0 ≤ a) (h1 : 0 ≤ b) (h2 : a * b ≤ m) (hm : m ≤ 9223372036854775807) :
    Calls Try.prog 17 #[.int .i64 a, .int .i64 b, .int .i64 m] w fun e w' => e = .returned (.tuple #[.int .i64 (a * b), .bool true]) ∧ w = w' := by
  have hp : 0 ≤ a * b := Int.mul_nonneg h0 h1
  by_cases c : 0 < a
  · have hd : b ≤ m / a := by
      rw [Int.le_ediv_iff_mul_le c, Int.mul_comm]; exact h2
    go_enter Try.func17, Try.ntmps17
    go_wp2_with fail
    go_ret2
    exact ⟨rfl, rfl⟩
  · go_enter Try.func17, Try.ntmps17
    go_wp2_with fail
    go_ret2
    exact ⟨rfl, rfl⟩

theorem mul_no (a b m : Int) (w : World) (hm : m ≤ 9223372036854775807) (h : a < 0 ∨ b < 0 ∨ m < a * b) :
    Calls Try.prog 17 #[.int .i64 a, .int .i64 b, .int .i64 m] w fun e w' => e = .returned (.tuple #[.int .i64 0, .bool false]) ∧ w = w' := by
  by_cases ca : a < 0
  · go_enter Try.func17, Try.ntmps17
    go_wp2_with fail
    go_ret2
    exact ⟨rfl, rfl⟩
  · by_cases cb : b < 0
    · go_enter Try.func17, Try.ntmps17
      go_wp2_with fail
      go_ret2
      exact ⟨rfl, rfl⟩
    · have hmm : m < a * b := by omega
      by_cases cm : m < 0
      · clear hmm h
        go_enter Try.func17, Try.ntmps17
        go_wp2_with fail
        go_ret2
        exact ⟨rfl, rfl⟩
      · have c : 0 < a := by
          rcases Int.lt_or_le 0 a with h | h
          · exact h
          · have : a = 0 := by omega
            subst this
            simp at hmm
            omega
        have hd : m / a < b := by
          rw [Int.ediv_lt_iff_lt_mul c, Int.mul_comm]; exact hmm
        clear hmm h
        go_enter Try.func17, Try.ntmps17
        go_wp2_with fail
        go_ret2
        exact ⟨rfl, rfl⟩

theorem slots_no (n : Int) (w : World) (h : n < 0 ∨ 400 < n) :
    Calls Try.prog 21 #[.int .i64 n] w fun e w' => e = .returned (.int .i64 0) ∧ w = w' := by
  go_enter Try.func21, Try.ntmps21
  go_wp2_with (first | (go_at_call 35; refine (within_no _ _ _ h).mono ?_; rintro e w' ⟨rfl, rfl⟩))
  go_ret
  exact ⟨rfl, rfl⟩


theorem ret_int {k : IntKind} {a b : Int} (h : a = b) : Ending.returned (.int k a) = .returned (.int k b) := by rw [h]
theorem ret_two {k : IntKind} {a b : Int} {c : Bool} (h : a = b) : Ending.returned (.tuple #[.int k a, .bool c]) = .returned (.tuple #[.int k b, .bool c]) := by rw [h]

/-- The slots of a size. -/
def slotsOf (n : Int) : Int := if n ≤ 32 then 1 else (n + 31) / 32

theorem slots_yes (n : Int) (w : World) (h : 0 ≤ n) (h' : n ≤ 400) :
    Calls Try.prog 21 #[.int .i64 n] w fun e w' => e = .returned (.int .i64 (slotsOf n)) ∧ w = w' := by
  go_enter Try.func21, Try.ntmps21
  go_wp2_with (first | (go_at_call 35; refine (within_yes _ _ _ h h').mono ?_; rintro e w' ⟨rfl, rfl⟩))
  all_goals
    go_ret
    exact ⟨ret_int (by unfold slotsOf; split <;> omega), rfl⟩

/-- What a tip is raised to. -/
def raised (t p : Int) : Int := if t + 1 < (t * (100 + p) + 99) / 100 then (t * (100 + p) + 99) / 100 else t + 1

theorem prod_le (t p : Int) (c1 : 0 ≤ t) (c2 : t ≤ 1099511627776) (c3 : 0 ≤ p) (c4 : p ≤ 100) : 0 ≤ t * (100 + p) ∧ t * (100 + p) ≤ 219902325555200 ∧ 100 * t ≤ t * (100 + p) := by
  have h1 : t * (100 + p) ≤ 1099511627776 * (100 + p) := Int.mul_le_mul_of_nonneg_right c2 (by omega)
  have h2 : 0 ≤ t * p := Int.mul_nonneg c1 c3
  have h3 : t * (100 + p) = t * 100 + t * p := Int.mul_add _ _ _
  omega

theorem raise_no (t p : Int) (w : World) (h : t < 0 ∨ 1099511627776 < t ∨ p < 0 ∨ 100 < p) :
    Calls Try.prog 19 #[.int .i64 t, .int .i64 p] w fun e w' => e = .returned (.tuple #[.int .i64 0, .bool false]) ∧ w = w' := by
  by_cases c : t < 0 ∨ 1099511627776 < t
  · go_enter Try.func19, Try.ntmps19
    go_wp2_with fail
    refine (within_no _ _ _ c).mono ?_
    rintro e w' ⟨rfl, rfl⟩
    go_wp2_with fail
    go_ret2
    exact ⟨rfl, rfl⟩
  · have c1 : 0 ≤ t := by omega
    have c2 : t ≤ 1099511627776 := by omega
    have c3 : p < 0 ∨ 100 < p := by omega
    clear h c
    go_enter Try.func19, Try.ntmps19
    go_wp2_with fail
    refine (within_yes _ _ _ c1 c2).mono ?_
    rintro e w' ⟨rfl, rfl⟩
    go_wp2_with fail
    refine (within_no _ _ _ c3).mono ?_
    rintro e w' ⟨rfl, rfl⟩
    go_wp2_with fail
    go_ret2
    exact ⟨rfl, rfl⟩

theorem raise_most (t p : Int) (w : World) (c1 : 0 ≤ t) (c2 : t ≤ 1099511627776) (c3 : 0 ≤ p) (c4 : p ≤ 100) (h : 1099511627776 < raised t p) :
    Calls Try.prog 19 #[.int .i64 t, .int .i64 p] w fun e w' => e = .returned (.tuple #[.int .i64 0, .bool false]) ∧ w = w' := by
  obtain ⟨b1, b2, b3⟩ := prod_le t p c1 c2 c3 c4
  unfold raised at h
  by_cases c : t + 1 < (t * (100 + p) + 99) / 100
  · rw [if_pos c] at h
    go_enter Try.func19, Try.ntmps19
    go_wp2_with fail
    refine (within_yes _ _ _ c1 c2).mono ?_
    rintro e w' ⟨rfl, rfl⟩
    go_wp2_with fail
    refine (within_yes _ _ _ c3 c4).mono ?_
    rintro e w' ⟨rfl, rfl⟩
    go_wp2_with fail
    go_ret2
    exact ⟨rfl, rfl⟩
  · rw [if_neg c] at h
    go_enter Try.func19, Try.ntmps19
    go_wp2_with fail
    refine (within_yes _ _ _ c1 c2).mono ?_
    rintro e w' ⟨rfl, rfl⟩
    go_wp2_with fail
    refine (within_yes _ _ _ c3 c4).mono ?_
    rintro e w' ⟨rfl, rfl⟩
    go_wp2_with fail
    go_ret2
    exact ⟨rfl, rfl⟩

theorem raise_yes (t p : Int) (w : World) (c1 : 0 ≤ t) (c2 : t ≤ 1099511627776) (c3 : 0 ≤ p) (c4 : p ≤ 100) (h : raised t p ≤ 1099511627776) :
    Calls Try.prog 19 #[.int .i64 t, .int .i64 p] w fun e w' => e = .returned (.tuple #[.int .i64 (raised t p), .bool true]) ∧ w = w' := by
  obtain ⟨b1, b2, b3⟩ := prod_le t p c1 c2 c3 c4
  by_cases c : t + 1 < (t * (100 + p) + 99) / 100
  · have e : raised t p = (t * (100 + p) + 99) / 100 := by unfold raised; rw [if_pos c]
    rw [e] at h ⊢
    clear e
    go_enter Try.func19, Try.ntmps19
    go_wp2_with fail
    refine (within_yes _ _ _ c1 c2).mono ?_
    rintro e w' ⟨rfl, rfl⟩
    go_wp2_with fail
    refine (within_yes _ _ _ c3 c4).mono ?_
    rintro e w' ⟨rfl, rfl⟩
    go_wp2_with fail
    go_ret2
    exact ⟨rfl, rfl⟩
  · have e : raised t p = t + 1 := by unfold raised; rw [if_neg c]
    rw [e] at h ⊢
    clear e
    go_enter Try.func19, Try.ntmps19
    go_wp2_with fail
    refine (within_yes _ _ _ c1 c2).mono ?_
    rintro e w' ⟨rfl, rfl⟩
    go_wp2_with fail
    refine (within_yes _ _ _ c3 c4).mono ?_
    rintro e w' ⟨rfl, rfl⟩
    go_wp2_with fail
    go_ret2
    exact ⟨rfl, rfl⟩

/-- The sum of the first k. -/
def sm (X : Nat → Int) : Nat → Int
  | 0 => 0
  | k + 1 => sm X k + X k

theorem sm_bd (X : Nat → Int) (n : Nat) (h : ∀ i, i < n → 0 ≤ X i ∧ X i ≤ 1099511627776) (k : Nat) (hk : k ≤ n) : 0 ≤ sm X k ∧ sm X k ≤ 1099511627776 * k := by
  induction k with
  | zero => simp [sm]
  | succ k ih =>
    have a := ih (by omega)
    have b := h k (by omega)
    simp only [sm]
    omega

/-- A slice of pairs as it lies: X the first ones, Y the second ones. -/
def PairsAt (w : World) (a : Option Addr) (len : Nat) (X Y : Nat → Int) : Prop :=
  len = 0 ∨ ∃ b off, a = some ⟨b, off, none⟩ ∧ ∀ i, i < len → w.cell? ⟨b, off + i * 2, none⟩ = some (.int .i64 (X i)) ∧ w.cell? ⟨b, off + i * 2 + 1, none⟩ = some (.int .i64 (Y i))

theorem lt_of_block {w : World} {k : Nat} {o : Obj} (h : w.heap[k]? = some o) : k < w.heap.size := (Array.getElem?_eq_some_iff.1 h).1

open flt in
set_option maxHeartbeats 400000 in
theorem totals_yes (b off len cap : Nat) (X Y : Nat → Int) (w : World) (hl : len ≤ 1000)
    (hc : ∀ i, i < len → w.cell? ⟨b, off + i * 2, none⟩ = some (.int .i64 (X i)) ∧ w.cell? ⟨b, off + i * 2 + 1, none⟩ = some (.int .i64 (Y i)))
    (hx : ∀ i, i < len → 0 ≤ X i ∧ X i ≤ 1099511627776) (hy : ∀ i, i < len → 0 ≤ Y i ∧ Y i ≤ 1099511627776) :
    Calls Try.prog 24 #[.slice (some ⟨b, off, none⟩) len cap] w fun e w' => e = .returned (.tuple #[.agg #[.int .i64 (sm X len), .int .i64 (sm Y len)], .bool true]) ∧ Below w.heap.size w w' := by
  go_enter Try.func24, Try.ntmps24
  go_wp2_with fail
  go_loopw [4, 13] (fun c i wr => ∃ k : Nat, k ≤ len ∧ c = .complex .f64 (fw (sm X k).toNat) (fw (sm Y k).toNat) ∧ i = .int .i64 k ∧ wr.heap[w.heap.size]? = some (.cells #[.int .i64 0, .int .i64 0] 29 (0, 0)) ∧ Below w.heap.size w wr) (fun _ i _ => len - (intOf i).toNat)
  case atStart =>
    exact ⟨0, Nat.zero_le _, by simp [sm, fw_zero], rfl, by show (w.heap.push _)[w.heap.size]? = _; simp, (Below.refl _ _).alloc (Nat.le_refl _) _⟩
  case round =>
    obtain ⟨k, hk, rfl, rfl, hblk, hbel⟩ := hrel
    by_cases hlt : k < len
    · obtain ⟨c0, c1⟩ := hc k hlt
      have x0 := hx k hlt
      have y0 := hy k hlt
      have hb0 : b < w.heap.size := World.block_lt_of_cell? w _ c0
      have d0 : wr.cell? ⟨b, off + k * 2, none⟩ = some (.int .i64 (X k)) := by rw [hbel.cell hb0]; exact c0
      have d1 : wr.cell? ⟨b, off + k * 2 + 1, none⟩ = some (.int .i64 (Y k)) := by rw [hbel.cell hb0]; exact c1
      have bx := sm_bd X len hx k hk
      have bY := sm_bd Y len hy k hk
      have hadd : ∀ W, (binOp .add 46 (.complex .f64 (fw (sm X k).toNat) (fw (sm Y k).toNat)) (.complex .f64 (floatOfInt .f64 (X k)) (floatOfInt .f64 (Y k)))).run Try.prog W = .ok (.complex .f64 (fw (sm X (k + 1)).toNat) (fw (sm Y (k + 1)).toNat)) W := by
        intro W
        rw [ofInt_fw _ x0.1, ofInt_fw _ y0.1, sum_fw _ _ _ _ (by omega) (by omega)]
        have e1 : (sm X k).toNat + (X k).toNat = (sm X (k + 1)).toNat := by simp only [sm]; omega
        have e2 : (sm Y k).toNat + (Y k).toNat = (sm Y (k + 1)).toNat := by simp only [sm]; omega
        rw [e1, e2]
      clear hc hx hy c0 c1 bx bY
      go_wp2_with (first | (go_at_call 35; refine (within_yes _ _ _ (by omega) (by omega)).mono ?_; rintro e w' ⟨rfl, rfl⟩))
      go_roundw
      case rel =>
        refine ⟨k + 1, by omega, rfl, by go_num, ?_, hbel.alloc hbel.size _⟩
        rw [Below.heap_alloc _ _ _ (lt_of_block hblk)]
        exact hblk
      case measure => simp [intOf]; omega
    · have hkl : k = len := by omega
      subst hkl
      have bx := sm_bd X k hx k (Nat.le_refl _)
      have bY := sm_bd Y k hy k (Nat.le_refl _)
      have cx : ∀ W, (convert 47 3 (.float .f64 (fw (sm X k).toNat))).run Try.prog W = .ok (.int .i64 (sm X k)) W := by
        intro W
        rw [run_convert_float_int W _ _ .f64 .i64 _ _ (by kernel_rfl) Try.underlying3 (back_fw _ (by omega))]
        congr 2
        omega
      have cy : ∀ W, (convert 47 3 (.float .f64 (fw (sm Y k).toNat))).run Try.prog W = .ok (.int .i64 (sm Y k)) W := by
        intro W
        rw [run_convert_float_int W _ _ .f64 .i64 _ _ (by kernel_rfl) Try.underlying3 (back_fw _ (by omega))]
        congr 2
        omega
      clear hc hx hy bx bY
      have hc0 : wr.cell? ⟨w.heap.size, 0, none⟩ = some (.int .i64 0) := by simp [World.cell?, hblk]
      have hc1 : wr.cell? ⟨w.heap.size, 1, none⟩ = some (.int .i64 0) := by simp [World.cell?, hblk]
      have hf0 : wr.frozen? ⟨w.heap.size, 0, none⟩ = false := by simp [World.frozen?, hblk]
      have hf1 : wr.frozen? ⟨w.heap.size, 1, none⟩ = false := by simp [World.frozen?, hblk]
      go_wp2_with fail
      refine bodyPost_ret (v := .tuple #[.agg #[.int .i64 (sm X k), .int .i64 (sm Y k)], .bool true]) (by simp [results, Try.results24, go_sem, hc0, hc1]) rfl ⟨rfl, ?_⟩
      exact (hbel.setCell (Nat.le_refl _) _).setCell (Nat.le_refl _) _


/-- The first place at which something fails. -/
theorem first_bad (p : Nat → Prop) (n : Nat) (h : ¬ ∀ i, i < n → p i) : ∃ j, j < n ∧ ¬ p j ∧ ∀ i, i < j → p i := by
  induction n with
  | zero => exact absurd (fun i hi => absurd hi (Nat.not_lt_zero i)) h
  | succ n ih =>
    by_cases c : ∀ i, i < n → p i
    · refine ⟨n, by omega, fun hp => h fun i hi => ?_, c⟩
      by_cases e : i = n
      · subst e; exact hp
      · exact c i (by omega)
    · obtain ⟨j, h1, h2, h3⟩ := ih c
      exact ⟨j, by omega, h2, h3⟩

theorem two_kept (w : World) (n : Nat) (o : Obj) (x y a b : Value) (hn : n < w.heap.size) (g0 : w.cell? ⟨n, 0, none⟩ = some a) (g1 : w.cell? ⟨n, 1, none⟩ = some b) :
    (((w.setCell ⟨n, 0, none⟩ x).setCell ⟨n, 1, none⟩ y).alloc o).cell? ⟨n, 0, none⟩ = some x ∧ (((w.setCell ⟨n, 0, none⟩ x).setCell ⟨n, 1, none⟩ y).alloc o).cell? ⟨n, 1, none⟩ = some y := by
  have h1 : (w.setCell ⟨n, 0, none⟩ x).cell? ⟨n, 1, none⟩ = some b := by rw [World.cell?_setCell_other _ _ _ _ (by simp)]; exact g1
  constructor
  · rw [World.cell?_alloc_lt _ _ _ (by simpa using hn), World.cell?_setCell_other _ _ _ _ (by simp)]
    exact World.cell?_setCell_same _ _ _ g0
  · rw [World.cell?_alloc_lt _ _ _ (by simpa using hn)]
    exact World.cell?_setCell_same _ _ _ h1

theorem totals_long (a : Option Addr) (len cap : Nat) (w : World) (hl : 1000 < len) (hm : len ≤ maxLen) :
    Calls Try.prog 24 #[.slice a len cap] w fun e w' => e = .returned (.tuple #[.agg #[.int .i64 0, .int .i64 0], .bool false]) ∧ Below w.heap.size w w' := by
  unfold maxLen at hm
  go_enter Try.func24, Try.ntmps24
  go_wp2_with fail
  refine bodyPost_ret (v := .tuple #[.agg #[.int .i64 0, .int .i64 0], .bool false]) (by simp [results, Try.results24, go_sem]) rfl ⟨rfl, ?_⟩
  exact (Below.refl _ _).alloc (Nat.le_refl _) _

theorem totals_nil (a : Option Addr) (cap : Nat) (w : World) :
    Calls Try.prog 24 #[.slice a 0 cap] w fun e w' => e = .returned (.tuple #[.agg #[.int .i64 0, .int .i64 0], .bool true]) ∧ Below w.heap.size w w' := by
  have cx : ∀ W, (convert 47 3 (.float .f64 0)).run Try.prog W = .ok (.int .i64 0) W := by
    intro W
    have h := flt.back_fw 0 (by decide)
    rw [flt.fw_zero] at h
    exact run_convert_float_int W _ _ .f64 .i64 _ _ (by kernel_rfl) Try.underlying3 h
  go_enter Try.func24, Try.ntmps24
  go_wp2_with fail
  refine wp_loop_rounds 1 ?_
  rw [rounds_succ]
  go_wp2_with fail
  refine bodyPost_ret (v := .tuple #[.agg #[.int .i64 0, .int .i64 0], .bool true]) (by simp [results, Try.results24, go_sem]) rfl ⟨rfl, ?_⟩
  exact (Below.refl _ _).alloc (Nat.le_refl _) _

open flt in
set_option maxHeartbeats 400000 in
theorem totals_bad (b off len cap j : Nat) (X Y : Nat → Int) (w : World) (hl : len ≤ 1000) (hj : j < len)
    (hc : ∀ i, i < len → w.cell? ⟨b, off + i * 2, none⟩ = some (.int .i64 (X i)) ∧ w.cell? ⟨b, off + i * 2 + 1, none⟩ = some (.int .i64 (Y i)))
    (hx : ∀ i, i < j → 0 ≤ X i ∧ X i ≤ 1099511627776) (hy : ∀ i, i < j → 0 ≤ Y i ∧ Y i ≤ 1099511627776)
    (hbad : (X j < 0 ∨ 1099511627776 < X j) ∨ (Y j < 0 ∨ 1099511627776 < Y j)) :
    Calls Try.prog 24 #[.slice (some ⟨b, off, none⟩) len cap] w fun e w' => e = .returned (.tuple #[.agg #[.int .i64 0, .int .i64 0], .bool false]) ∧ Below w.heap.size w w' := by
  go_enter Try.func24, Try.ntmps24
  go_wp2_with fail
  go_loopw [4, 13] (fun c i wr => ∃ k : Nat, k ≤ j ∧ c = .complex .f64 (fw (sm X k).toNat) (fw (sm Y k).toNat) ∧ i = .int .i64 k ∧ wr.heap[w.heap.size]? = some (.cells #[.int .i64 0, .int .i64 0] 29 (0, 0)) ∧ Below w.heap.size w wr) (fun _ i _ => len - (intOf i).toNat)
  case atStart =>
    exact ⟨0, Nat.zero_le _, by simp [sm, fw_zero], rfl, by show (w.heap.push _)[w.heap.size]? = _; simp, (Below.refl _ _).alloc (Nat.le_refl _) _⟩
  case round =>
    obtain ⟨k, hk, rfl, rfl, hblk, hbel⟩ := hrel
    obtain ⟨c0, c1⟩ := hc k (by omega)
    have hb0 : b < w.heap.size := World.block_lt_of_cell? w _ c0
    have d0 : wr.cell? ⟨b, off + k * 2, none⟩ = some (.int .i64 (X k)) := by rw [hbel.cell hb0]; exact c0
    have d1 : wr.cell? ⟨b, off + k * 2 + 1, none⟩ = some (.int .i64 (Y k)) := by rw [hbel.cell hb0]; exact c1
    have hkl : k < len := by omega
    by_cases hlt : k < j
    · have x0 := hx k hlt
      have y0 := hy k hlt
      have bx := sm_bd X j hx k hk
      have bY := sm_bd Y j hy k hk
      have hadd : ∀ W, (binOp .add 46 (.complex .f64 (fw (sm X k).toNat) (fw (sm Y k).toNat)) (.complex .f64 (floatOfInt .f64 (X k)) (floatOfInt .f64 (Y k)))).run Try.prog W = .ok (.complex .f64 (fw (sm X (k + 1)).toNat) (fw (sm Y (k + 1)).toNat)) W := by
        intro W
        rw [ofInt_fw _ x0.1, ofInt_fw _ y0.1, sum_fw _ _ _ _ (by omega) (by omega)]
        have e1 : (sm X k).toNat + (X k).toNat = (sm X (k + 1)).toNat := by simp only [sm]; omega
        have e2 : (sm Y k).toNat + (Y k).toNat = (sm Y (k + 1)).toNat := by simp only [sm]; omega
        rw [e1, e2]
      clear hc hx hy c0 c1 bx bY hbad
      go_wp2_with (first | (go_at_call 35; refine (within_yes _ _ _ (by omega) (by omega)).mono ?_; rintro e w' ⟨rfl, rfl⟩))
      go_roundw
      case rel =>
        refine ⟨k + 1, by omega, rfl, by go_num, ?_, hbel.alloc hbel.size _⟩
        rw [Below.heap_alloc _ _ _ (lt_of_block hblk)]
        exact hblk
      case measure => simp [intOf]; omega
    · have hkj : k = j := by omega
      subst hkj
      have hn : w.heap.size < wr.heap.size := lt_of_block hblk
      have g0 : wr.cell? ⟨w.heap.size, 0, none⟩ = some (.int .i64 0) := by simp [World.cell?, hblk]
      have g1 : wr.cell? ⟨w.heap.size, 1, none⟩ = some (.int .i64 0) := by simp [World.cell?, hblk]
      have f0 : wr.frozen? ⟨w.heap.size, 0, none⟩ = false := by simp [World.frozen?, hblk]
      have f1 : wr.frozen? ⟨w.heap.size, 1, none⟩ = false := by simp [World.frozen?, hblk]
      have q := two_kept wr w.heap.size (.cells #[.int .i64 (X k), .int .i64 (Y k)] 29 (0, 0)) (.int .i64 0) (.int .i64 0) _ _ hn g0 g1
      have Q := Lib.hid q
      clear q hc hx hy c0 c1
      by_cases bx : X k < 0 ∨ 1099511627776 < X k
      · clear hbad
        go_wp2_with fail
        refine (within_no _ _ _ bx).mono ?_
        rintro e w' ⟨rfl, rfl⟩
        go_wp2_with fail
        have q := Q.out
        refine bodyPost_ret (v := .tuple #[.agg #[.int .i64 0, .int .i64 0], .bool false]) (by simp [results, Try.results24, go_sem, q.1, q.2]) rfl ⟨rfl, ?_⟩
        exact ((hbel.setCell (Nat.le_refl _) _).setCell (Nat.le_refl _) _).alloc (by simpa using hbel.size) _
      · have by1 := hbad.resolve_left bx
        have x0 : 0 ≤ X k ∧ X k ≤ 1099511627776 := by omega
        clear bx hbad
        go_wp2_with fail
        refine (within_yes _ _ _ x0.1 x0.2).mono ?_
        rintro e w' ⟨rfl, rfl⟩
        go_wp2_with fail
        refine (within_no _ _ _ by1).mono ?_
        rintro e w' ⟨rfl, rfl⟩
        go_wp2_with fail
        have q := Q.out
        refine bodyPost_ret (v := .tuple #[.agg #[.int .i64 0, .int .i64 0], .bool false]) (by simp [results, Try.results24, go_sem, q.1, q.2]) rfl ⟨rfl, ?_⟩
        exact ((hbel.setCell (Nat.le_refl _) _).setCell (Nat.le_refl _) _).alloc (by simpa using hbel.size) _

end Go.Proofs.Ythjlilepialmoaa.sat
