/- The walk of hopperlaw03.CodecOrder. -/
import Derived.Test.YtfhbcnomlgiciaaCodecLive
import Derived.Test.YtfhbcnomlgiciaaCodecRefNum
import Derived.OpenShut
namespace Go.Proofs.Ytfhbcnomlgiciaa.codecOrder
open Go.RowKit Go.ChangeShapes Go.WideShapes codec
set_option linter.unusedVariables false

set_option maxHeartbeats 2000000 in
theorem walk (n m : Int) (a b : ByteArray) (w : World) (wn : (Lit.int .i64 n).wf = true ∧ (Lit.int .i64 m).wf = true) (wa : a.size ≤ maxLen) (wb : b.size ≤ maxLen) :
    Calls Try.prog 9 #[.agg #[.int .i64 n, .int .i64 m], .string a, .string b] w fun e w' => e = .returned (.bool true) ∧ Below w.heap.size w w' := by
  have fn := bounds_i64 wn.1
  have fm := bounds_i64 wn.2
  clear wn
  unfold maxLen at wa wb
  have B0 : (w.alloc (.cells #[.int .i64 n, .int .i64 m] 36 (0, 0))).cell? ⟨w.heap.size, 0, none⟩ = some (.int .i64 n) ∧ (w.alloc (.cells #[.int .i64 n, .int .i64 m] 36 (0, 0))).cell? ⟨w.heap.size, 1, none⟩ = some (.int .i64 m) ∧ Below w.heap.size w (w.alloc (.cells #[.int .i64 n, .int .i64 m] 36 (0, 0))) ∧ w.heap.size < (w.alloc (.cells #[.int .i64 n, .int .i64 m] 36 (0, 0))).heap.size :=
    ⟨by simp, by simp, (Below.refl _ _).alloc (Nat.le_refl _) _, by show w.heap.size < (w.heap.push _).size; simp⟩
  by_cases c : n < 0 ∨ m < 0 ∨ 2000 < a.size ∨ 2000 < b.size
  · have c' : (decide (n < 0) = true) ∨ (decide (n < 0) = false ∧ decide (m < 0) = true) ∨ (decide (n < 0) = false ∧ decide (m < 0) = false ∧ decide (2000 < (a.size : Int)) = true) ∨ (decide (n < 0) = false ∧ decide (m < 0) = false ∧ decide (2000 < (a.size : Int)) = false ∧ decide (2000 < (b.size : Int)) = true) := by
      simp
      omega
    clear c
    rcases c' with d1 | ⟨d1, d2⟩ | ⟨d1, d2, d3⟩ | ⟨d1, d2, d3, d4⟩
    all_goals
      go_enter Try.func9, Try.ntmps9
      go_wp2_with fail
      generalize w.alloc (.cells #[.int .i64 n, .int .i64 m] 36 (0, 0)) = w0 at B0 ⊢
      obtain ⟨c0, c1, hbel, hz⟩ := B0
      go_wp2_with fail
      refine (live_true _).mono ?_
      rintro e w1 ⟨rfl, hb1⟩
      have hbel := later hbel hb1
      clear c0 c1
      clear hb1
      go_wp2_with fail
      go_ret
      exact ⟨rfl, hbel⟩
  · obtain ⟨i, rfl⟩ := Int.eq_ofNat_of_zero_le (show 0 ≤ n by omega)
    obtain ⟨j, rfl⟩ := Int.eq_ofNat_of_zero_le (show 0 ≤ m by omega)
    have d1 : decide ((i : Int) < 0) = false := by simp
    have d2 : decide ((j : Int) < 0) = false := by simp
    have d3 : decide (2000 < (a.size : Int)) = false := by simp; omega
    have d4 : decide (2000 < (b.size : Int)) = false := by simp; omega
    have hi : i < 9223372036854775808 := by omega
    have hj : j < 9223372036854775808 := by omega
    have N1 := Lib.hid (fun w => cnumber i (by omega) w)
    have N2 := Lib.hid (fun w => cnumber j (by omega) w)
    have T1 := Lib.hid (fun w => ctext a w (by omega))
    have T2 := Lib.hid (fun w => ctext b w (by omega))
    have L1 : Op.bytesLess (num i) (num j) = decide (i < j) := num_less i j hi hj
    have L2 : (num i == num j) = decide (i = j) := by rw [Bool.eq_iff_iff]; simp [num_inj]
    have ta : a.toList = a.data.toList := ByteArray.toList_eq a
    have tb : b.toList = b.data.toList := ByteArray.toList_eq b
    have L3 : (text a.data.toList == text b.data.toList) = (a.toList == b.toList) := by rw [ta, tb, Bool.eq_iff_iff]; simp [text_inj]
    have L4 : a.size = b.size → Op.bytesLess (text a.data.toList) (text b.data.toList) = Op.bytesLess a.toList b.toList := fun h => by rw [ta, tb]; exact text_less _ _ (by simpa using h)
    clear ta tb
    generalize num i = X at N1 L1 L2
    generalize num j = Y at N2 L1 L2
    generalize text a.data.toList = U at T1 L3 L4
    generalize text b.data.toList = V at T2 L3 L4
    have H := Lib.hid (And.intro hi hj)
    have L4 := Lib.hid L4
    clear c hi hj
    have E : ∃ p q : Bool, (decide ((i : Int) < (j : Int)) = p ∧ decide (i < j) = p ∧ decide ((j : Int) ≤ (i : Int)) = !p ∧ decide (j ≤ i) = !p) ∧ (((i : Int) == (j : Int)) = q ∧ decide (i = j) = q ∧ (i == j) = q ∧ decide ((i : Int) = (j : Int)) = q) := by
      refine ⟨decide (i < j), decide (i = j), ⟨?_, rfl, ?_, ?_⟩, ?_, rfl, ?_, ?_⟩ <;> (rw [Bool.eq_iff_iff]; simp) <;> omega
    obtain ⟨p, q, ⟨E1, E3, E4, E5⟩, E2, E6, E7, E8⟩ := E
    rw [E3] at L1
    rw [E6] at L2
    by_cases s : a.size = b.size
    · have L5 := L4.out s
      have s1 : ((a.size : Int) == (b.size : Int)) = true := by simp; omega
      have s2 : (a.size : Int) = (b.size : Int) := by omega
      have SS := Lib.hid s
      clear s L4
      cases p <;> cases q
      all_goals
        go_enter Try.func9, Try.ntmps9
        go_wp2_with fail
        generalize w.alloc (.cells #[.int .i64 (i : Int), .int .i64 (j : Int)] 36 (0, 0)) = w0 at B0 ⊢
        obtain ⟨c0, c1, hbel, hz⟩ := B0
        go_wp2_with fail
        refine (N1.out _).mono ?_
        rintro e w1 ⟨rfl, hb1⟩
        have hbel := later hbel hb1
        have c0 := (hb1.cell hz).trans c0
        have c1 := (hb1.cell hz).trans c1
        have hz := Nat.lt_of_lt_of_le hz hb1.size
        clear hb1
        go_wp2_with fail
        refine (N2.out _).mono ?_
        rintro e w2 ⟨rfl, hb2⟩
        have hbel := later hbel hb2
        have c0 := (hb2.cell hz).trans c0
        have c1 := (hb2.cell hz).trans c1
        have hz := Nat.lt_of_lt_of_le hz hb2.size
        clear hb2
        go_wp2_with fail
        refine (T1.out _).mono ?_
        rintro e w3 ⟨rfl, hb3⟩
        have hbel := later hbel hb3
        have c0 := (hb3.cell hz).trans c0
        have c1 := (hb3.cell hz).trans c1
        have hz := Nat.lt_of_lt_of_le hz hb3.size
        clear hb3
        go_wp2_with fail
        refine (T2.out _).mono ?_
        rintro e w4 ⟨rfl, hb4⟩
        have hbel := later hbel hb4
        have c0 := (hb4.cell hz).trans c0
        have c1 := (hb4.cell hz).trans c1
        have hz := Nat.lt_of_lt_of_le hz hb4.size
        clear hb4
        go_wp2_with fail
        refine (T1.out _).mono ?_
        rintro e w5 ⟨rfl, hb5⟩
        have hbel := later hbel hb5
        have c0 := (hb5.cell hz).trans c0
        have c1 := (hb5.cell hz).trans c1
        have hz := Nat.lt_of_lt_of_le hz hb5.size
        clear hb5
        go_wp2_with fail
        refine (T2.out _).mono ?_
        rintro e w6 ⟨rfl, hb6⟩
        have hbel := later hbel hb6
        have c0 := (hb6.cell hz).trans c0
        have c1 := (hb6.cell hz).trans c1
        have hz := Nat.lt_of_lt_of_le hz hb6.size
        clear hb6
        go_wp2_with fail
        refine (live_true _).mono ?_
        rintro e w7 ⟨rfl, hb7⟩
        have hbel := later hbel hb7
        clear c0 c1
        clear hb7
        go_wp2_with fail
        go_ret
        exact ⟨rfl, hbel⟩
    · have s1 : ((a.size : Int) == (b.size : Int)) = false := by simp; omega
      have s2 : ¬ (a.size : Int) = (b.size : Int) := by omega
      have SS := Lib.hid s
      clear s L4
      cases p <;> cases q
      all_goals
        go_enter Try.func9, Try.ntmps9
        go_wp2_with fail
        generalize w.alloc (.cells #[.int .i64 (i : Int), .int .i64 (j : Int)] 36 (0, 0)) = w0 at B0 ⊢
        obtain ⟨c0, c1, hbel, hz⟩ := B0
        go_wp2_with fail
        refine (N1.out _).mono ?_
        rintro e w1 ⟨rfl, hb1⟩
        have hbel := later hbel hb1
        have c0 := (hb1.cell hz).trans c0
        have c1 := (hb1.cell hz).trans c1
        have hz := Nat.lt_of_lt_of_le hz hb1.size
        clear hb1
        go_wp2_with fail
        refine (N2.out _).mono ?_
        rintro e w2 ⟨rfl, hb2⟩
        have hbel := later hbel hb2
        have c0 := (hb2.cell hz).trans c0
        have c1 := (hb2.cell hz).trans c1
        have hz := Nat.lt_of_lt_of_le hz hb2.size
        clear hb2
        go_wp2_with fail
        refine (T1.out _).mono ?_
        rintro e w3 ⟨rfl, hb3⟩
        have hbel := later hbel hb3
        have c0 := (hb3.cell hz).trans c0
        have c1 := (hb3.cell hz).trans c1
        have hz := Nat.lt_of_lt_of_le hz hb3.size
        clear hb3
        go_wp2_with fail
        refine (T2.out _).mono ?_
        rintro e w4 ⟨rfl, hb4⟩
        have hbel := later hbel hb4
        have c0 := (hb4.cell hz).trans c0
        have c1 := (hb4.cell hz).trans c1
        have hz := Nat.lt_of_lt_of_le hz hb4.size
        clear hb4
        go_wp2_with fail
        refine (live_true _).mono ?_
        rintro e w5 ⟨rfl, hb5⟩
        have hbel := later hbel hb5
        clear c0 c1
        clear hb5
        go_wp2_with fail
        go_ret
        exact ⟨rfl, hbel⟩
end Go.Proofs.Ytfhbcnomlgiciaa.codecOrder
