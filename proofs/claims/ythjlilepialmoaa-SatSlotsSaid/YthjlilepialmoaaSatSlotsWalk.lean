import Derived.Test.YthjlilepialmoaaSatRef
namespace Go.Proofs.Ythjlilepialmoaa.satSlots
open Go.RowKit Go.ChangeShapes Go.WideShapes sat
set_option linter.unusedVariables false

theorem slotsOf_bd (n : Int) (h0 : 0 ≤ n) (h1 : n ≤ 400) : 1 ≤ slotsOf n ∧ slotsOf n ≤ 13 ∧ n ≤ 32 * slotsOf n ∧ (1 < slotsOf n → 32 * (slotsOf n - 1) < n) := by
  unfold slotsOf
  split <;> omega

theorem slotsOf_mono (n m : Int) (h0 : 0 ≤ m) (h1 : m ≤ n) : slotsOf m ≤ slotsOf n := by
  unfold slotsOf
  split <;> split <;> omega

set_option maxHeartbeats 1000000 in
theorem walk (n l : Int) (w : World) (wn : (Lit.int .i64 n).wf = true) (wl : (Lit.int .i64 l).wf = true) :
    Calls Try.prog 8 #[.int .i64 n, .int .i64 l] w fun e w' => e = .returned (.bool true) ∧ Below w.heap.size w w' := by
  have fn := bounds_i64 wn
  have fl := bounds_i64 wl
  clear wn wl
  by_cases d0 : n < 0
  · go_enter Try.func8, Try.ntmps8
    go_wp2_with fail
    refine (slots_no n _ (Or.inl d0)).mono ?_
    rintro e w' ⟨rfl, rfl⟩
    go_wp2_with fail
    refine (live_true _).mono ?_
    rintro e w' ⟨rfl, hb⟩
    go_wp2_with fail
    go_ret
    exact ⟨rfl, hb⟩
  by_cases d1 : 400 < n
  · go_enter Try.func8, Try.ntmps8
    go_wp2_with fail
    refine (slots_no n _ (Or.inr d1)).mono ?_
    rintro e w' ⟨rfl, rfl⟩
    go_wp2_with fail
    refine (live_true _).mono ?_
    rintro e w' ⟨rfl, hb⟩
    go_wp2_with fail
    go_ret
    exact ⟨rfl, hb⟩
  have b := slotsOf_bd n (by omega) (by omega)
  have mono := fun h0 h1 => slotsOf_mono n (n - l) h0 h1
  have M := Lib.hid mono
  clear mono
  have hs : ∀ w, Calls Try.prog 21 #[.int .i64 n] w fun e w' => e = .returned (.int .i64 (slotsOf n)) ∧ w = w' := fun w => slots_yes n w (by omega) (by omega)
  have HS := Lib.hid hs
  clear hs
  generalize slotsOf n = s at b M HS
  obtain ⟨b1, b2, b3, b4⟩ := b
  by_cases d2 : 1 < s
  · have b5 := b4 d2
    clear b4
    by_cases d3 : l < 0
    · go_enter Try.func8, Try.ntmps8
      go_wp2_with fail
      refine (HS.out _).mono ?_
      rintro e w' ⟨rfl, rfl⟩
      go_wp2_with fail
      refine (live_true _).mono ?_
      rintro e w' ⟨rfl, hb⟩
      go_wp2_with fail
      go_ret
      exact ⟨rfl, hb⟩
    by_cases d4 : n < l
    · go_enter Try.func8, Try.ntmps8
      go_wp2_with fail
      refine (HS.out _).mono ?_
      rintro e w' ⟨rfl, rfl⟩
      go_wp2_with fail
      refine (live_true _).mono ?_
      rintro e w' ⟨rfl, hb⟩
      go_wp2_with fail
      go_ret
      exact ⟨rfl, hb⟩
    have b6 : slotsOf (n - l) ≤ s := M.out (by omega) (by omega)
    go_enter Try.func8, Try.ntmps8
    go_wp2_with fail
    refine (HS.out _).mono ?_
    rintro e w' ⟨rfl, rfl⟩
    go_wp2_with fail
    refine (slots_yes (n - l) _ (by omega) (by omega)).mono ?_
    rintro e w' ⟨rfl, rfl⟩
    go_wp2_with fail
    refine (live_true _).mono ?_
    rintro e w' ⟨rfl, hb⟩
    go_wp2_with fail
    go_ret
    exact ⟨rfl, hb⟩
  · clear b4
    have hs1 : s = 1 := by omega
    subst hs1
    clear d2 b1 b2
    by_cases d3 : l < 0
    · go_enter Try.func8, Try.ntmps8
      go_wp2_with fail
      refine (HS.out _).mono ?_
      rintro e w' ⟨rfl, rfl⟩
      go_wp2_with fail
      refine (live_true _).mono ?_
      rintro e w' ⟨rfl, hb⟩
      go_wp2_with fail
      go_ret
      exact ⟨rfl, hb⟩
    by_cases d4 : n < l
    · go_enter Try.func8, Try.ntmps8
      go_wp2_with fail
      refine (HS.out _).mono ?_
      rintro e w' ⟨rfl, rfl⟩
      go_wp2_with fail
      refine (live_true _).mono ?_
      rintro e w' ⟨rfl, hb⟩
      go_wp2_with fail
      go_ret
      exact ⟨rfl, hb⟩
    have b6 : slotsOf (n - l) ≤ 1 := M.out (by omega) (by omega)
    go_enter Try.func8, Try.ntmps8
    go_wp2_with fail
    refine (HS.out _).mono ?_
    rintro e w' ⟨rfl, rfl⟩
    go_wp2_with fail
    refine (slots_yes (n - l) _ (by omega) (by omega)).mono ?_
    rintro e w' ⟨rfl, rfl⟩
    go_wp2_with fail
    refine (live_true _).mono ?_
    rintro e w' ⟨rfl, hb⟩
    go_wp2_with fail
    go_ret
    exact ⟨rfl, hb⟩
end Go.Proofs.Ythjlilepialmoaa.satSlots
