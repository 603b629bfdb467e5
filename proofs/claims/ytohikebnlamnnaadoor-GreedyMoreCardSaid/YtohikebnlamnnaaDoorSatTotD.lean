/- Totals of pairs: the code's, and the document's own (in seats where Slots lies). -/
import Derived.Test.YtohikebnlamnnaaDoorChecked
import Derived.WalkKit
import Derived.ProofKit
import Derived.WalkLawsBesides
import Derived.Lib.Hide
import Derived.Test.YtohikebnlamnnaaDoorFloat
import Derived.RegionTactic
import Derived.ChangeAlike
import Derived.Laws.Rows
namespace Go.Proofs.YtohikebnlamnnaaDoor.satd
open Go.RowKit

theorem within_yes (n m : Int) (w : World) (h : 0 ≤ n) (h' : n ≤ m) :
    Calls Tryd.prog 80 #[.int .i64 n, .int .i64 m] w fun e w' => e = .returned (.bool true) ∧ w = w' := by
  go_enter Tryd.func80, Tryd.ntmps80
  go_wp2
  go_ret
  exact ⟨rfl, rfl⟩

theorem within_no (n m : Int) (w : World) (h : n < 0 ∨ m < n) :
    Calls Tryd.prog 80 #[.int .i64 n, .int .i64 m] w fun e w' => e = .returned (.bool false) ∧ w = w' := by
  by_cases h0 : n < 0
  · go_enter Tryd.func80, Tryd.ntmps80
    go_wp2
    go_ret
    exact ⟨rfl, rfl⟩
  · have h1 : decide (n ≤ m) = false := by simp; omega
    have h2 : 0 ≤ n := by omega
    clear h h0
    go_enter Tryd.func80, Tryd.ntmps80
    go_wp2
    go_ret
    exact ⟨rfl, rfl⟩

def sm (X : Nat → Int) : Nat → Int
  | 0 => 0
  | k + 1 => sm X k + X k

theorem sm_bd (X : Nat → Int) (n : Nat) (h : ∀ i, i < n → 0 ≤ X i ∧ X i ≤ 1099511627776) (k : Nat) (hk : k ≤ n) : 0 ≤ sm X k ∧ sm X k ≤ 1099511627776 * k := by
  induction k with
  | zero => simp [sm]
  | succ k ih =>
    have a := ih (by omega)
    have b := h k (by omega)
    simp only [sm]
    omega

/-- A slice of pairs as it lies: X the first ones, Y the second ones. -/
def PairsAt (w : World) (a : Option Addr) (len : Nat) (X Y : Nat → Int) : Prop :=
  len = 0 ∨ ∃ b off, a = some ⟨b, off, none⟩ ∧ ∀ i, i < len → w.cell? ⟨b, off + i * 2, none⟩ = some (.int .i64 (X i)) ∧ w.cell? ⟨b, off + i * 2 + 1, none⟩ = some (.int .i64 (Y i))

theorem lt_of_block {w : World} {k : Nat} {o : Obj} (h : w.heap[k]? = some o) : k < w.heap.size := (Array.getElem?_eq_some_iff.1 h).1

open flt in
set_option maxHeartbeats 400000 in
theorem totals_yes (b off len cap : Nat) (X Y : Nat → Int) (w : World) (hl : len ≤ 1000)
    (hc : ∀ i, i < len → w.cell? ⟨b, off + i * 2, none⟩ = some (.int .i64 (X i)) ∧ w.cell? ⟨b, off + i * 2 + 1, none⟩ = some (.int .i64 (Y i)))
    (hx : ∀ i, i < len → 0 ≤ X i ∧ X i ≤ 1099511627776) (hy : ∀ i, i < len → 0 ≤ Y i ∧ Y i ≤ 1099511627776) :
    Calls Tryd.prog 57 #[.slice (some ⟨b, off, none⟩) len cap] w fun e w' => e = .returned (.tuple #[.agg #[.int .i64 (sm X len), .int .i64 (sm Y len)], .bool true]) ∧ Below w.heap.size w w' := by
  go_enter Tryd.func57, Tryd.ntmps57
  go_wp2_with fail
  go_loopw [4, 13] (fun c i wr => ∃ k : Nat, k ≤ len ∧ c = .complex .f64 (fw (sm X k).toNat) (fw (sm Y k).toNat) ∧ i = .int .i64 k ∧ wr.heap[w.heap.size]? = some (.cells #[.int .i64 0, .int .i64 0] 83 (0, 0)) ∧ Below w.heap.size w wr) (fun _ i _ => len - (intOf i).toNat)
  case atStart =>
    exact ⟨0, Nat.zero_le _, by simp [sm, fw_zero], rfl, by show (w.heap.push _)[w.heap.size]? = _; simp, (Below.refl _ _).alloc (Nat.le_refl _) _⟩
  case round =>
    obtain ⟨k, hk, rfl, rfl, hblk, hbel⟩ := hrel
    by_cases hlt : k < len
    · obtain ⟨c0, c1⟩ := hc k hlt
      have x0 := hx k hlt
      have y0 := hy k hlt
      have hb0 : b < w.heap.size := World.block_lt_of_cell? w _ c0
      have d0 : wr.cell? ⟨b, off + k * 2, none⟩ = some (.int .i64 (X k)) := by rw [hbel.cell hb0]; exact c0
      have d1 : wr.cell? ⟨b, off + k * 2 + 1, none⟩ = some (.int .i64 (Y k)) := by rw [hbel.cell hb0]; exact c1
      have bx := sm_bd X len hx k hk
      have bY := sm_bd Y len hy k hk
      have hadd : ∀ W, (binOp .add 111 (.complex .f64 (fw (sm X k).toNat) (fw (sm Y k).toNat)) (.complex .f64 (floatOfInt .f64 (X k)) (floatOfInt .f64 (Y k)))).run Tryd.prog W = .ok (.complex .f64 (fw (sm X (k + 1)).toNat) (fw (sm Y (k + 1)).toNat)) W := by
        intro W
        rw [ofInt_fw _ x0.1, ofInt_fw _ y0.1, sum_fw _ _ _ _ (by omega) (by omega)]
        have e1 : (sm X k).toNat + (X k).toNat = (sm X (k + 1)).toNat := by simp only [sm]; omega
        have e2 : (sm Y k).toNat + (Y k).toNat = (sm Y (k + 1)).toNat := by simp only [sm]; omega
        rw [e1, e2]
      clear hc hx hy c0 c1 bx bY
      go_wp2_with (first | (go_at_call 80; refine (within_yes _ _ _ (by omega) (by omega)).mono ?_; rintro e w' ⟨rfl, rfl⟩))
      go_roundw
      case rel =>
        refine ⟨k + 1, by omega, rfl, by go_num, ?_, hbel.alloc hbel.size _⟩
        rw [Below.heap_alloc _ _ _ (lt_of_block hblk)]
        exact hblk
      case measure => simp [intOf]; omega
    · have hkl : k = len := by omega
      subst hkl
      have bx := sm_bd X k hx k (Nat.le_refl _)
      have bY := sm_bd Y k hy k (Nat.le_refl _)
      have cx : ∀ W, (convert 113 3 (.float .f64 (fw (sm X k).toNat))).run Tryd.prog W = .ok (.int .i64 (sm X k)) W := by
        intro W
        rw [run_convert_float_int W _ _ .f64 .i64 _ _ (by kernel_rfl) Tryd.underlying3 (back_fw _ (by omega))]
        congr 2
        omega
      have cy : ∀ W, (convert 113 3 (.float .f64 (fw (sm Y k).toNat))).run Tryd.prog W = .ok (.int .i64 (sm Y k)) W := by
        intro W
        rw [run_convert_float_int W _ _ .f64 .i64 _ _ (by kernel_rfl) Tryd.underlying3 (back_fw _ (by omega))]
        congr 2
        omega
      clear hc hx hy bx bY
      have hc0 : wr.cell? ⟨w.heap.size, 0, none⟩ = some (.int .i64 0) := by simp [World.cell?, hblk]
      have hc1 : wr.cell? ⟨w.heap.size, 1, none⟩ = some (.int .i64 0) := by simp [World.cell?, hblk]
      have hf0 : wr.frozen? ⟨w.heap.size, 0, none⟩ = false := by simp [World.frozen?, hblk]
      have hf1 : wr.frozen? ⟨w.heap.size, 1, none⟩ = false := by simp [World.frozen?, hblk]
      go_wp2_with fail
      refine bodyPost_ret (v := .tuple #[.agg #[.int .i64 (sm X k), .int .i64 (sm Y k)], .bool true]) (by simp [results, Tryd.results57, go_sem, hc0, hc1]) rfl ⟨rfl, ?_⟩
      exact (hbel.setCell (Nat.le_refl _) _).setCell (Nat.le_refl _) _


/-- The first place at which something fails. -/
theorem first_bad (p : Nat → Prop) (n : Nat) (h : ¬ ∀ i, i < n → p i) : ∃ j, j < n ∧ ¬ p j ∧ ∀ i, i < j → p i := by
  induction n with
  | zero => exact absurd (fun i hi => absurd hi (Nat.not_lt_zero i)) h
  | succ n ih =>
    by_cases c : ∀ i, i < n → p i
    · refine ⟨n, by omega, fun hp => h fun i hi => ?_, c⟩
      by_cases e : i = n
      · subst e; exact hp
      · exact c i (by omega)
    · obtain ⟨j, h1, h2, h3⟩ := ih c
      exact ⟨j, by omega, h2, h3⟩

theorem two_kept (w : World) (n : Nat) (o : Obj) (x y a b : Value) (hn : n < w.heap.size) (g0 : w.cell? ⟨n, 0, none⟩ = some a) (g1 : w.cell? ⟨n, 1, none⟩ = some b) :
    (((w.setCell ⟨n, 0, none⟩ x).setCell ⟨n, 1, none⟩ y).alloc o).cell? ⟨n, 0, none⟩ = some x ∧ (((w.setCell ⟨n, 0, none⟩ x).setCell ⟨n, 1, none⟩ y).alloc o).cell? ⟨n, 1, none⟩ = some y := by
  have h1 : (w.setCell ⟨n, 0, none⟩ x).cell? ⟨n, 1, none⟩ = some b := by rw [World.cell?_setCell_other _ _ _ _ (by simp)]; exact g1
  constructor
  · rw [World.cell?_alloc_lt _ _ _ (by simpa using hn), World.cell?_setCell_other _ _ _ _ (by simp)]
    exact World.cell?_setCell_same _ _ _ g0
  · rw [World.cell?_alloc_lt _ _ _ (by simpa using hn)]
    exact World.cell?_setCell_same _ _ _ h1

theorem totals_long (a : Option Addr) (len cap : Nat) (w : World) (hl : 1000 < len) (hm : len ≤ maxLen) :
    Calls Tryd.prog 57 #[.slice a len cap] w fun e w' => e = .returned (.tuple #[.agg #[.int .i64 0, .int .i64 0], .bool false]) ∧ Below w.heap.size w w' := by
  unfold maxLen at hm
  go_enter Tryd.func57, Tryd.ntmps57
  go_wp2_with fail
  refine bodyPost_ret (v := .tuple #[.agg #[.int .i64 0, .int .i64 0], .bool false]) (by simp [results, Tryd.results57, go_sem]) rfl ⟨rfl, ?_⟩
  exact (Below.refl _ _).alloc (Nat.le_refl _) _

theorem totals_nil (a : Option Addr) (cap : Nat) (w : World) :
    Calls Tryd.prog 57 #[.slice a 0 cap] w fun e w' => e = .returned (.tuple #[.agg #[.int .i64 0, .int .i64 0], .bool true]) ∧ Below w.heap.size w w' := by
  have cx : ∀ W, (convert 113 3 (.float .f64 0)).run Tryd.prog W = .ok (.int .i64 0) W := by
    intro W
    have h := flt.back_fw 0 (by decide)
    rw [flt.fw_zero] at h
    exact run_convert_float_int W _ _ .f64 .i64 _ _ (by kernel_rfl) Tryd.underlying3 h
  go_enter Tryd.func57, Tryd.ntmps57
  go_wp2_with fail
  refine wp_loop_rounds 1 ?_
  rw [rounds_succ]
  go_wp2_with fail
  refine bodyPost_ret (v := .tuple #[.agg #[.int .i64 0, .int .i64 0], .bool true]) (by simp [results, Tryd.results57, go_sem]) rfl ⟨rfl, ?_⟩
  exact (Below.refl _ _).alloc (Nat.le_refl _) _

open flt in
set_option maxHeartbeats 400000 in
theorem totals_bad (b off len cap j : Nat) (X Y : Nat → Int) (w : World) (hl : len ≤ 1000) (hj : j < len)
    (hc : ∀ i, i < len → w.cell? ⟨b, off + i * 2, none⟩ = some (.int .i64 (X i)) ∧ w.cell? ⟨b, off + i * 2 + 1, none⟩ = some (.int .i64 (Y i)))
    (hx : ∀ i, i < j → 0 ≤ X i ∧ X i ≤ 1099511627776) (hy : ∀ i, i < j → 0 ≤ Y i ∧ Y i ≤ 1099511627776)
    (hbad : (X j < 0 ∨ 1099511627776 < X j) ∨ (Y j < 0 ∨ 1099511627776 < Y j)) :
    Calls Tryd.prog 57 #[.slice (some ⟨b, off, none⟩) len cap] w fun e w' => e = .returned (.tuple #[.agg #[.int .i64 0, .int .i64 0], .bool false]) ∧ Below w.heap.size w w' := by
  go_enter Tryd.func57, Tryd.ntmps57
  go_wp2_with fail
  go_loopw [4, 13] (fun c i wr => ∃ k : Nat, k ≤ j ∧ c = .complex .f64 (fw (sm X k).toNat) (fw (sm Y k).toNat) ∧ i = .int .i64 k ∧ wr.heap[w.heap.size]? = some (.cells #[.int .i64 0, .int .i64 0] 83 (0, 0)) ∧ Below w.heap.size w wr) (fun _ i _ => len - (intOf i).toNat)
  case atStart =>
    exact ⟨0, Nat.zero_le _, by simp [sm, fw_zero], rfl, by show (w.heap.push _)[w.heap.size]? = _; simp, (Below.refl _ _).alloc (Nat.le_refl _) _⟩
  case round =>
    obtain ⟨k, hk, rfl, rfl, hblk, hbel⟩ := hrel
    obtain ⟨c0, c1⟩ := hc k (by omega)
    have hb0 : b < w.heap.size := World.block_lt_of_cell? w _ c0
    have d0 : wr.cell? ⟨b, off + k * 2, none⟩ = some (.int .i64 (X k)) := by rw [hbel.cell hb0]; exact c0
    have d1 : wr.cell? ⟨b, off + k * 2 + 1, none⟩ = some (.int .i64 (Y k)) := by rw [hbel.cell hb0]; exact c1
    have hkl : k < len := by omega
    by_cases hlt : k < j
    · have x0 := hx k hlt
      have y0 := hy k hlt
      have bx := sm_bd X j hx k hk
      have bY := sm_bd Y j hy k hk
      have hadd : ∀ W, (binOp .add 111 (.complex .f64 (fw (sm X k).toNat) (fw (sm Y k).toNat)) (.complex .f64 (floatOfInt .f64 (X k)) (floatOfInt .f64 (Y k)))).run Tryd.prog W = .ok (.complex .f64 (fw (sm X (k + 1)).toNat) (fw (sm Y (k + 1)).toNat)) W := by
        intro W
        rw [ofInt_fw _ x0.1, ofInt_fw _ y0.1, sum_fw _ _ _ _ (by omega) (by omega)]
        have e1 : (sm X k).toNat + (X k).toNat = (sm X (k + 1)).toNat := by simp only [sm]; omega
        have e2 : (sm Y k).toNat + (Y k).toNat = (sm Y (k + 1)).toNat := by simp only [sm]; omega
        rw [e1, e2]
      clear hc hx hy c0 c1 bx bY hbad
      go_wp2_with (first | (go_at_call 80; refine (within_yes _ _ _ (by omega) (by omega)).mono ?_; rintro e w' ⟨rfl, rfl⟩))
      go_roundw
      case rel =>
        refine ⟨k + 1, by omega, rfl, by go_num, ?_, hbel.alloc hbel.size _⟩
        rw [Below.heap_alloc _ _ _ (lt_of_block hblk)]
        exact hblk
      case measure => simp [intOf]; omega
    · have hkj : k = j := by omega
      subst hkj
      have hn : w.heap.size < wr.heap.size := lt_of_block hblk
      have g0 : wr.cell? ⟨w.heap.size, 0, none⟩ = some (.int .i64 0) := by simp [World.cell?, hblk]
      have g1 : wr.cell? ⟨w.heap.size, 1, none⟩ = some (.int .i64 0) := by simp [World.cell?, hblk]
      have f0 : wr.frozen? ⟨w.heap.size, 0, none⟩ = false := by simp [World.frozen?, hblk]
      have f1 : wr.frozen? ⟨w.heap.size, 1, none⟩ = false := by simp [World.frozen?, hblk]
      have q := two_kept wr w.heap.size (.cells #[.int .i64 (X k), .int .i64 (Y k)] 83 (0, 0)) (.int .i64 0) (.int .i64 0) _ _ hn g0 g1
      have Q := Lib.hid q
      clear q hc hx hy c0 c1
      by_cases bx : X k < 0 ∨ 1099511627776 < X k
      · clear hbad
        go_wp2_with fail
        refine (within_no _ _ _ bx).mono ?_
        rintro e w' ⟨rfl, rfl⟩
        go_wp2_with fail
        have q := Q.out
        refine bodyPost_ret (v := .tuple #[.agg #[.int .i64 0, .int .i64 0], .bool false]) (by simp [results, Tryd.results57, go_sem, q.1, q.2]) rfl ⟨rfl, ?_⟩
        exact ((hbel.setCell (Nat.le_refl _) _).setCell (Nat.le_refl _) _).alloc (by simpa using hbel.size) _
      · have by1 := hbad.resolve_left bx
        have x0 : 0 ≤ X k ∧ X k ≤ 1099511627776 := by omega
        clear bx hbad
        go_wp2_with fail
        refine (within_yes _ _ _ x0.1 x0.2).mono ?_
        rintro e w' ⟨rfl, rfl⟩
        go_wp2_with fail
        refine (within_no _ _ _ by1).mono ?_
        rintro e w' ⟨rfl, rfl⟩
        go_wp2_with fail
        have q := Q.out
        refine bodyPost_ret (v := .tuple #[.agg #[.int .i64 0, .int .i64 0], .bool false]) (by simp [results, Tryd.results57, go_sem, q.1, q.2]) rfl ⟨rfl, ?_⟩
        exact ((hbel.setCell (Nat.le_refl _) _).setCell (Nat.le_refl _) _).alloc (by simpa using hbel.size) _


set_option linter.unusedVariables false

set_option maxHeartbeats 1000000 in
theorem rtotals_yes (b off len cap : Nat) (X Y : Nat → Int) (w : World) (hl : len ≤ 1000)
    (hc : ∀ i, i < len → w.cell? ⟨b, off + i * 2, none⟩ = some (.int .i64 (X i)) ∧ w.cell? ⟨b, off + i * 2 + 1, none⟩ = some (.int .i64 (Y i)))
    (hx : ∀ i, i < len → 0 ≤ X i ∧ X i ≤ 1099511627776) (hy : ∀ i, i < len → 0 ≤ Y i ∧ Y i ≤ 1099511627776) :
    Calls Tryd.prog 58 #[.slice (some ⟨b, off, none⟩) len cap] w fun e w' => e = .returned (.tuple #[.agg #[.int .i64 (sm X len), .int .i64 (sm Y len)], .bool true]) ∧ Below w.heap.size w w' := by
  go_enter Tryd.func58, Tryd.ntmps58
  go_wp2_with fail
  go_loopw [5] (fun i wr => ∃ k : Nat, k ≤ len ∧ i = .int .i64 k ∧ wr.heap[w.heap.size]? = some (.cells #[.int .i64 0, .int .i64 0] 83 (0, 0)) ∧ wr.heap[w.heap.size + 1]? = some (.cells #[.int .i64 (sm X k), .int .i64 (sm Y k)] 83 (0, 0)) ∧ Below w.heap.size w wr) (fun i _ => len - (intOf i).toNat)
  case atStart =>
    refine ⟨0, Nat.zero_le _, rfl, ?_, ?_, ((Below.refl _ _).alloc (Nat.le_refl _) _).alloc (by simp) _⟩
    · show ((w.heap.push _).push _)[w.heap.size]? = _
      rw [Array.getElem?_push, if_neg (by simp)]
      simp
    · show ((w.heap.push _).push _)[w.heap.size + 1]? = _
      rw [Array.getElem?_push, if_pos (by simp)]
      rfl
  case round =>
    obtain ⟨k, hk, rfl, hblk, hblk1, hbel⟩ := hrel
    by_cases hlt : k < len
    · obtain ⟨c0, c1⟩ := hc k hlt
      have x0 := hx k hlt
      have y0 := hy k hlt
      have bx := sm_bd X len hx k hk
      have bY := sm_bd Y len hy k hk
      have hb0 : b < w.heap.size := World.block_lt_of_cell? w _ c0
      have d0 : wr.cell? ⟨b, off + k * 2, none⟩ = some (.int .i64 (X k)) := by rw [hbel.cell hb0]; exact c0
      have d1 : wr.cell? ⟨b, off + k * 2 + 1, none⟩ = some (.int .i64 (Y k)) := by rw [hbel.cell hb0]; exact c1
      have o0 : wr.cell? ⟨w.heap.size + 1, 0, none⟩ = some (.int .i64 (sm X k)) := by simp [World.cell?, hblk1]
      have o1 : wr.cell? ⟨w.heap.size + 1, 1, none⟩ = some (.int .i64 (sm Y k)) := by simp [World.cell?, hblk1]
      have f0 : wr.frozen? ⟨w.heap.size + 1, 0, none⟩ = false := by simp [World.frozen?, hblk1]
      have f1 : wr.frozen? ⟨w.heap.size + 1, 1, none⟩ = false := by simp [World.frozen?, hblk1]
      have hne0 : b ≠ w.heap.size + 1 := by omega
      have B0 := Lib.hid hblk
      have B1 := Lib.hid hblk1
      clear hc hx hy c0 c1 hblk hblk1
      go_wp2_with fail
      refine wp_loop_rounds 3 ?_
      rw [rounds_succ]
      go_wp2_with fail
      rw [rounds_succ]
      go_wp2_with fail
      rw [rounds_succ]
      go_wp2_with fail
      go_region
      go_wp2_with fail
      go_roundw
      case rel =>
        refine ⟨k + 1, by omega, by go_num, ?_, ?_, ?_⟩
        · have h := B0.out
          show (((wr.setCell _ _).setCell _ _).heap)[w.heap.size]? = _
          rw [Below.heap_setCell _ _ _ _ (by simp), Below.heap_setCell _ _ _ _ (by simp)]
          exact h
        · have h := B1.out
          show (((wr.setCell _ _).setCell _ _).heap)[w.heap.size + 1]? = _
          have h1 := heap_setCell_same wr (w.heap.size + 1) 0 _ _ (.int .i64 (sm X k + X k)) h
          exact heap_setCell_same _ (w.heap.size + 1) 1 _ _ (.int .i64 (sm Y k + Y k)) h1
        · exact ((hbel.setCell (by simp) _).setCell (by simp) _).drew
      case measure => simp [intOf]; omega
    · have hkl : k = len := by omega
      subst hkl
      have o0 : wr.cell? ⟨w.heap.size + 1, 0, none⟩ = some (.int .i64 (sm X k)) := by simp [World.cell?, hblk1]
      have o1 : wr.cell? ⟨w.heap.size + 1, 1, none⟩ = some (.int .i64 (sm Y k)) := by simp [World.cell?, hblk1]
      have g0 : wr.cell? ⟨w.heap.size, 0, none⟩ = some (.int .i64 0) := by simp [World.cell?, hblk]
      have g1 : wr.cell? ⟨w.heap.size, 1, none⟩ = some (.int .i64 0) := by simp [World.cell?, hblk]
      have f0 : wr.frozen? ⟨w.heap.size, 0, none⟩ = false := by simp [World.frozen?, hblk]
      have f1 : wr.frozen? ⟨w.heap.size, 1, none⟩ = false := by simp [World.frozen?, hblk]
      clear hc hx hy
      go_wp2_with fail
      refine bodyPost_ret (v := .tuple #[.agg #[.int .i64 (sm X k), .int .i64 (sm Y k)], .bool true]) (by simp [results, Tryd.results58, go_sem, g0, g1]) rfl ⟨rfl, ?_⟩
      exact (hbel.setCell (Nat.le_refl _) _).setCell (Nat.le_refl _) _

theorem rtotals_nil (a : Option Addr) (cap : Nat) (w : World) :
    Calls Tryd.prog 58 #[.slice a 0 cap] w fun e w' => e = .returned (.tuple #[.agg #[.int .i64 0, .int .i64 0], .bool true]) ∧ Below w.heap.size w w' := by
  go_enter Tryd.func58, Tryd.ntmps58
  go_wp2_with fail
  refine wp_loop_rounds 1 ?_
  rw [rounds_succ]
  go_wp2_with fail
  refine bodyPost_ret (v := .tuple #[.agg #[.int .i64 0, .int .i64 0], .bool true]) (by simp [results, Tryd.results58, go_sem]) rfl ⟨rfl, ?_⟩
  exact ((Below.refl _ _).alloc (Nat.le_refl _) _).alloc (by simp) _

set_option maxHeartbeats 1000000 in
theorem rtotals_long (b off len cap : Nat) (x : Int) (w : World) (hl : 1000 < len) (hm : len ≤ maxLen) (c0 : w.cell? ⟨b, off, none⟩ = some (.int .i64 x)) :
    Calls Tryd.prog 58 #[.slice (some ⟨b, off, none⟩) len cap] w fun e w' => e = .returned (.tuple #[.agg #[.int .i64 0, .int .i64 0], .bool false]) ∧ Below w.heap.size w w' := by
  unfold maxLen at hm
  have hb0 : b < w.heap.size := World.block_lt_of_cell? w _ c0
  have h : x < 0 ∨ (0 ≤ x ∧ 1099511627776 < x) ∨ (0 ≤ x ∧ x ≤ 1099511627776) := by omega
  have d0 : ((w.alloc (.cells #[.int .i64 0, .int .i64 0] 83 (0, 0))).alloc (.cells #[.int .i64 0, .int .i64 0] 83 (0, 0))).cell? ⟨b, off, none⟩ = some (.int .i64 x) := by
    rw [World.cell?_alloc_lt _ _ _ (by simp; omega), World.cell?_alloc_lt _ _ _ hb0]
    exact c0
  rcases h with h | ⟨h, h'⟩ | ⟨h, h'⟩
  all_goals
    go_enter Tryd.func58, Tryd.ntmps58
    go_wp2_with fail
    refine wp_loop_rounds 1 ?_
    rw [rounds_succ]
    go_wp2_with fail
    refine wp_loop_rounds 1 ?_
    rw [rounds_succ]
    go_wp2_with fail
    refine bodyPost_ret (v := .tuple #[.agg #[.int .i64 0, .int .i64 0], .bool false]) (by simp [results, Tryd.results58, go_sem]) rfl ⟨rfl, ?_⟩
    exact ((Below.refl _ _).alloc (Nat.le_refl _) _).alloc (by simp) _

set_option maxHeartbeats 1000000 in
theorem rtotals_bad (b off len cap j : Nat) (X Y : Nat → Int) (w : World) (hl : len ≤ 1000) (hj : j < len)
    (hc : ∀ i, i < len → w.cell? ⟨b, off + i * 2, none⟩ = some (.int .i64 (X i)) ∧ w.cell? ⟨b, off + i * 2 + 1, none⟩ = some (.int .i64 (Y i)))
    (hx : ∀ i, i < j → 0 ≤ X i ∧ X i ≤ 1099511627776) (hy : ∀ i, i < j → 0 ≤ Y i ∧ Y i ≤ 1099511627776)
    (hbad : (X j < 0 ∨ 1099511627776 < X j) ∨ (Y j < 0 ∨ 1099511627776 < Y j)) :
    Calls Tryd.prog 58 #[.slice (some ⟨b, off, none⟩) len cap] w fun e w' => e = .returned (.tuple #[.agg #[.int .i64 0, .int .i64 0], .bool false]) ∧ Below w.heap.size w w' := by
  go_enter Tryd.func58, Tryd.ntmps58
  go_wp2_with fail
  go_loopw [5] (fun i wr => ∃ k : Nat, k ≤ j ∧ i = .int .i64 k ∧ wr.heap[w.heap.size]? = some (.cells #[.int .i64 0, .int .i64 0] 83 (0, 0)) ∧ wr.heap[w.heap.size + 1]? = some (.cells #[.int .i64 (sm X k), .int .i64 (sm Y k)] 83 (0, 0)) ∧ Below w.heap.size w wr) (fun i _ => len - (intOf i).toNat)
  case atStart =>
    refine ⟨0, Nat.zero_le _, rfl, ?_, ?_, ((Below.refl _ _).alloc (Nat.le_refl _) _).alloc (by simp) _⟩
    · show ((w.heap.push _).push _)[w.heap.size]? = _
      rw [Array.getElem?_push, if_neg (by simp)]
      simp
    · show ((w.heap.push _).push _)[w.heap.size + 1]? = _
      rw [Array.getElem?_push, if_pos (by simp)]
      rfl
  case round =>
    obtain ⟨k, hk, rfl, hblk, hblk1, hbel⟩ := hrel
    have hkl : k < len := by omega
    obtain ⟨c0, c1⟩ := hc k hkl
    have hb0 : b < w.heap.size := World.block_lt_of_cell? w _ c0
    have d0 : wr.cell? ⟨b, off + k * 2, none⟩ = some (.int .i64 (X k)) := by rw [hbel.cell hb0]; exact c0
    have d1 : wr.cell? ⟨b, off + k * 2 + 1, none⟩ = some (.int .i64 (Y k)) := by rw [hbel.cell hb0]; exact c1
    by_cases hlt : k < j
    · have x0 := hx k hlt
      have y0 := hy k hlt
      have bx := sm_bd X j hx k hk
      have bY := sm_bd Y j hy k hk
      have o0 : wr.cell? ⟨w.heap.size + 1, 0, none⟩ = some (.int .i64 (sm X k)) := by simp [World.cell?, hblk1]
      have o1 : wr.cell? ⟨w.heap.size + 1, 1, none⟩ = some (.int .i64 (sm Y k)) := by simp [World.cell?, hblk1]
      have f0 : wr.frozen? ⟨w.heap.size + 1, 0, none⟩ = false := by simp [World.frozen?, hblk1]
      have f1 : wr.frozen? ⟨w.heap.size + 1, 1, none⟩ = false := by simp [World.frozen?, hblk1]
      have hne0 : b ≠ w.heap.size + 1 := by omega
      have B0 := Lib.hid hblk
      have B1 := Lib.hid hblk1
      clear hc hx hy c0 c1 hblk hblk1 hbad
      go_wp2_with fail
      refine wp_loop_rounds 3 ?_
      rw [rounds_succ]
      go_wp2_with fail
      rw [rounds_succ]
      go_wp2_with fail
      rw [rounds_succ]
      go_wp2_with fail
      go_region
      go_wp2_with fail
      go_roundw
      case rel =>
        refine ⟨k + 1, by omega, by go_num, ?_, ?_, ?_⟩
        · have h := B0.out
          show (((wr.setCell _ _).setCell _ _).heap)[w.heap.size]? = _
          rw [Below.heap_setCell _ _ _ _ (by simp), Below.heap_setCell _ _ _ _ (by simp)]
          exact h
        · have h := B1.out
          show (((wr.setCell _ _).setCell _ _).heap)[w.heap.size + 1]? = _
          have h1 := heap_setCell_same wr (w.heap.size + 1) 0 _ _ (.int .i64 (sm X k + X k)) h
          exact heap_setCell_same _ (w.heap.size + 1) 1 _ _ (.int .i64 (sm Y k + Y k)) h1
        · exact ((hbel.setCell (by simp) _).setCell (by simp) _).drew
      case measure => simp [intOf]; omega
    · have hkj : k = j := by omega
      subst hkj
      have g0 : wr.cell? ⟨w.heap.size, 0, none⟩ = some (.int .i64 0) := by simp [World.cell?, hblk]
      have g1 : wr.cell? ⟨w.heap.size, 1, none⟩ = some (.int .i64 0) := by simp [World.cell?, hblk]
      have f0 : wr.frozen? ⟨w.heap.size, 0, none⟩ = false := by simp [World.frozen?, hblk]
      have f1 : wr.frozen? ⟨w.heap.size, 1, none⟩ = false := by simp [World.frozen?, hblk]
      clear hc hx hy c0 c1 hblk hblk1
      by_cases bx : X k < 0 ∨ 1099511627776 < X k
      · clear hbad
        have bx' : X k < 0 ∨ (0 ≤ X k ∧ 1099511627776 < X k) := by omega
        clear bx
        rcases bx' with h | ⟨h, h'⟩
        all_goals
          go_wp2_with fail
          refine wp_loop_rounds 1 ?_
          rw [rounds_succ]
          go_wp2_with fail
          refine bodyPost_ret (v := .tuple #[.agg #[.int .i64 0, .int .i64 0], .bool false]) (by simp [results, Tryd.results58, go_sem, g0, g1]) rfl ⟨rfl, ?_⟩
          exact (hbel.setCell (Nat.le_refl _) _).setCell (Nat.le_refl _) _
      · have by1 := hbad.resolve_left bx
        have x0 : 0 ≤ X k ∧ X k ≤ 1099511627776 := by omega
        clear bx hbad
        have by1' : Y k < 0 ∨ (0 ≤ Y k ∧ 1099511627776 < Y k) := by omega
        clear by1
        rcases by1' with h | ⟨h, h'⟩
        all_goals
          go_wp2_with fail
          refine wp_loop_rounds 2 ?_
          rw [rounds_succ]
          go_wp2_with fail
          rw [rounds_succ]
          go_wp2_with fail
          refine bodyPost_ret (v := .tuple #[.agg #[.int .i64 0, .int .i64 0], .bool false]) (by simp [results, Tryd.results58, go_sem, g0, g1]) rfl ⟨rfl, ?_⟩
          exact (hbel.setCell (Nat.le_refl _) _).setCell (Nat.le_refl _) _

/-! In one form, for all pairs. -/
def TotOk (len : Nat) (X Y : Nat → Int) : Prop := len ≤ 1000 ∧ ∀ i, i < len → (0 ≤ X i ∧ X i ≤ 1099511627776) ∧ (0 ≤ Y i ∧ Y i ≤ 1099511627776)

instance (len : Nat) (X Y : Nat → Int) : Decidable (TotOk len X Y) := by unfold TotOk; exact inferInstance

def totX (len : Nat) (X Y : Nat → Int) : Int := if TotOk len X Y then sm X len else 0
def totY (len : Nat) (X Y : Nat → Int) : Int := if TotOk len X Y then sm Y len else 0
def totB (len : Nat) (X Y : Nat → Int) : Bool := decide (TotOk len X Y)

/-- A part of a slice of pairs. -/
def Row (w : World) (a : Option Addr) (len : Nat) (X Y : Nat → Int) : Prop :=
  len ≤ maxLen ∧ (len = 0 ∨ ∃ b off, a = some ⟨b, off, none⟩ ∧ ∀ i, i < len → w.cell? ⟨b, off + i * 2, none⟩ = some (.int .i64 (X i)) ∧ w.cell? ⟨b, off + i * 2 + 1, none⟩ = some (.int .i64 (Y i)))

theorem bad_of {len : Nat} {X Y : Nat → Int} (hl : len ≤ 1000) (h : ¬ TotOk len X Y) :
    ∃ j, j < len ∧ ((X j < 0 ∨ 1099511627776 < X j) ∨ (Y j < 0 ∨ 1099511627776 < Y j)) ∧ (∀ i, i < j → 0 ≤ X i ∧ X i ≤ 1099511627776) ∧ ∀ i, i < j → 0 ≤ Y i ∧ Y i ≤ 1099511627776 := by
  obtain ⟨j, h1, h2, h3⟩ := first_bad (fun i => (0 ≤ X i ∧ X i ≤ 1099511627776) ∧ (0 ≤ Y i ∧ Y i ≤ 1099511627776)) len (fun hh => h ⟨hl, hh⟩)
  exact ⟨j, h1, by omega, fun i hi => (h3 i hi).1, fun i hi => (h3 i hi).2⟩

theorem tot_yes {len : Nat} {X Y : Nat → Int} (h : TotOk len X Y) : totX len X Y = sm X len ∧ totY len X Y = sm Y len ∧ totB len X Y = true := ⟨if_pos h, if_pos h, decide_eq_true h⟩
theorem tot_no {len : Nat} {X Y : Nat → Int} (h : ¬ TotOk len X Y) : totX len X Y = 0 ∧ totY len X Y = 0 ∧ totB len X Y = false := ⟨if_neg h, if_neg h, decide_eq_false h⟩

theorem totals_any (a : Option Addr) (len cap : Nat) (X Y : Nat → Int) (w : World) (h : Row w a len X Y) :
    Calls Tryd.prog 57 #[.slice a len cap] w fun e w' => e = .returned (.tuple #[.agg #[.int .i64 (totX len X Y), .int .i64 (totY len X Y)], .bool (totB len X Y)]) ∧ Below w.heap.size w w' := by
  obtain ⟨hm, h⟩ := h
  by_cases hl : len ≤ 1000
  · by_cases k : TotOk len X Y
    · rw [(tot_yes k).1, (tot_yes k).2.1, (tot_yes k).2.2]
      rcases h with rfl | ⟨b, off, rfl, hc⟩
      · exact totals_nil a cap w
      · exact totals_yes b off len cap X Y w hl hc (fun i hi => (k.2 i hi).1) (fun i hi => (k.2 i hi).2)
    · obtain ⟨j, j1, j2, j3, j4⟩ := bad_of hl k
      rw [(tot_no k).1, (tot_no k).2.1, (tot_no k).2.2]
      rcases h with rfl | ⟨b, off, rfl, hc⟩
      · omega
      · exact totals_bad b off len cap j X Y w hl j1 hc j3 j4 j2
  · have k : ¬ TotOk len X Y := fun k => hl k.1
    rw [(tot_no k).1, (tot_no k).2.1, (tot_no k).2.2]
    exact totals_long a len cap w (by omega) hm

theorem rtotals_any (a : Option Addr) (len cap : Nat) (X Y : Nat → Int) (w : World) (h : Row w a len X Y) :
    Calls Tryd.prog 58 #[.slice a len cap] w fun e w' => e = .returned (.tuple #[.agg #[.int .i64 (totX len X Y), .int .i64 (totY len X Y)], .bool (totB len X Y)]) ∧ Below w.heap.size w w' := by
  obtain ⟨hm, h⟩ := h
  by_cases hl : len ≤ 1000
  · by_cases k : TotOk len X Y
    · rw [(tot_yes k).1, (tot_yes k).2.1, (tot_yes k).2.2]
      rcases h with rfl | ⟨b, off, rfl, hc⟩
      · exact rtotals_nil a cap w
      · exact rtotals_yes b off len cap X Y w hl hc (fun i hi => (k.2 i hi).1) (fun i hi => (k.2 i hi).2)
    · obtain ⟨j, j1, j2, j3, j4⟩ := bad_of hl k
      rw [(tot_no k).1, (tot_no k).2.1, (tot_no k).2.2]
      rcases h with rfl | ⟨b, off, rfl, hc⟩
      · omega
      · exact rtotals_bad b off len cap j X Y w hl j1 hc j3 j4 j2
  · have k : ¬ TotOk len X Y := fun k => hl k.1
    rw [(tot_no k).1, (tot_no k).2.1, (tot_no k).2.2]
    rcases h with rfl | ⟨b, off, rfl, hc⟩
    · omega
    · exact rtotals_long b off len cap (X 0) w (by omega) hm (by simpa using (hc 0 (by omega)).1)

end Go.Proofs.YtohikebnlamnnaaDoor.satd
