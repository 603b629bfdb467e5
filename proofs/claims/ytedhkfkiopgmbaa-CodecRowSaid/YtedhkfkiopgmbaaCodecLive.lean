/- What hopperlaw03's own examples come to: live answers true. -/
import Derived.Test.YtedhkfkiopgmbaaCodecTakeT
namespace Go.Proofs.Ytedhkfkiopgmbaa.codec
open Go.RowKit
set_option linter.unusedVariables false

theorem size_300 : size 300 = 2 := size_of 300 2 (by omega) (by decide) (Or.inr (by decide))
theorem size_0 : size 0 = 1 := size_of 0 1 (by omega) (by decide) (Or.inl rfl)
theorem size_44 : size 44 = 1 := size_of 44 1 (by omega) (by decide) (Or.inl rfl)
theorem num_300 : num 300 = [2, 1, 44] := by
  unfold num
  rw [size_300]
  decide
theorem num_0 : num 0 = [1, 0] := by
  unfold num
  rw [size_0]
  decide
theorem take_a : takeNum [2, 1, 44, 114, 101, 115, 116] 300 = some (300, [114, 101, 115, 116]) := by
  rw [show [2, 1, 44, 114, 101, 115, 116] = num 300 ++ [114, 101, 115, 116] from by rw [num_300]; rfl, takeNum_num 300 _ _ (by omega), if_pos (by omega)]
theorem take_b : takeNum [2, 1, 44] 299 = none := by
  rw [show [2, 1, 44] = num 300 ++ [] from by rw [num_300]; rfl, takeNum_num 300 _ _ (by omega), if_neg (by omega)]
theorem take_c : takeNum [2, 0, 44] 999 = none := by
  simp only [takeNum]
  rw [if_neg]
  intro h
  have h4 := h.2.2.2.1
  have e : whole (([0, 44] : List UInt8).take (2 : UInt8).toNat) = 44 := by decide
  rw [e, size_44] at h4
  exact absurd h4 (by decide)

theorem cnum_lit (n : Int) (l : List UInt8) (w : World) (h : n < 9223372036854775808) (hl : numV n = l) :
    Calls Try.prog 5 #[.int .i64 n] w fun e w' => e = .returned (.string ⟨l.toArray⟩) ∧ Below w.heap.size w w' := by
  subst hl
  exact cnumber_any n w h
theorem ctext_lit (s l : List UInt8) (w : World) (h : s.length ≤ 100) (hl : textV s = l) :
    Calls Try.prog 6 #[.string ⟨s.toArray⟩] w fun e w' => e = .returned (.string ⟨l.toArray⟩) ∧ Below w.heap.size w w' := by
  subst hl
  exact ctext_any ⟨s.toArray⟩ w (by unfold maxLen; show s.length ≤ _; omega)
theorem ctake_lit (s : List UInt8) (m : Int) (v : Value) (w : World) (h : s.length ≤ 100) (hv : retNum (takeNum s m) = v) :
    Calls Try.prog 7 #[.string ⟨s.toArray⟩, .int .i64 m] w fun e w' => e = .returned v ∧ Below w.heap.size w w' := by
  subst hv
  exact ctakenum_any ⟨s.toArray⟩ m w (by unfold maxLen; show s.length ≤ _; omega)
theorem ctaket_lit (s : List UInt8) (m : Int) (v : Value) (w : World) (h : s.length ≤ 100) (hv : retText (takeText s m) = v) :
    Calls Try.prog 8 #[.string ⟨s.toArray⟩, .int .i64 m] w fun e w' => e = .returned v ∧ Below w.heap.size w w' := by
  subst hv
  exact ctaketext_any ⟨s.toArray⟩ m w (by unfold maxLen; show s.length ≤ _; omega)

set_option maxHeartbeats 1000000 in
theorem live_true (w : World) :
    Calls Try.prog 4 #[] w fun e w' => e = .returned (.bool true) ∧ Below w.heap.size w w' := by
  go_enter Try.func4, Try.ntmps4
  go_wp2_with fail
  refine (ctake_lit [2, 1, 44, 114, 101, 115, 116] 300 (.tuple #[.int .i64 300, .string ⟨#[114, 101, 115, 116]⟩, .bool true]) _ (by decide) (congrArg retNum take_a)).mono ?_
  rintro e w1 ⟨rfl, hb1⟩
  go_wp2_with fail
  refine (ctake_lit [2, 1, 44] 299 (.tuple #[.int .i64 0, .string ⟨#[]⟩, .bool false]) _ (by decide) (congrArg retNum take_b)).mono ?_
  rintro e w2 ⟨rfl, hb2⟩
  go_wp2_with fail
  refine (ctake_lit [2, 0, 44] 999 (.tuple #[.int .i64 0, .string ⟨#[]⟩, .bool false]) _ (by decide) (congrArg retNum take_c)).mono ?_
  rintro e w3 ⟨rfl, hb3⟩
  go_wp2_with fail
  refine (ctaket_lit [0, 2, 97, 98, 99] 2 (.tuple #[.string ⟨#[97, 98]⟩, .string ⟨#[99]⟩, .bool true]) _ (by decide) rfl).mono ?_
  rintro e w4 ⟨rfl, hb4⟩
  go_wp2_with fail
  refine (ctaket_lit [0, 2, 97] 9 (.tuple #[.string ⟨#[]⟩, .string ⟨#[]⟩, .bool false]) _ (by decide) rfl).mono ?_
  rintro e w5 ⟨rfl, hb5⟩
  go_wp2_with fail
  refine (cnum_lit 300 [2, 1, 44] _ (by decide) num_300).mono ?_
  rintro e w6 ⟨rfl, hb6⟩
  go_wp2_with fail
  refine (cnum_lit 0 [1, 0] _ (by decide) num_0).mono ?_
  rintro e w7 ⟨rfl, hb7⟩
  go_wp2_with fail
  refine (cnum_lit (-1) [] _ (by decide) rfl).mono ?_
  rintro e w8 ⟨rfl, hb8⟩
  go_wp2_with fail
  refine (ctext_lit [97, 98] [0, 2, 97, 98] _ (by decide) (by decide)).mono ?_
  rintro e w9 ⟨rfl, hb9⟩
  go_wp2_with fail
  go_ret
  exact ⟨rfl, later (later (later (later (later (later (later (later hb1 hb2) hb3) hb4) hb5) hb6) hb7) hb8) hb9⟩
end Go.Proofs.Ytedhkfkiopgmbaa.codec
