import Derived.Test.YthjlilepialmoaaPairsA1
import Derived.Test.YthjlilepialmoaaPairsA2
import Derived.Test.YthjlilepialmoaaPairsA3
import Derived.Test.YthjlilepialmoaaPairsB1
import Derived.Test.YthjlilepialmoaaPairsB2
import Derived.Test.YthjlilepialmoaaPairsB3
import Derived.Test.YthjlilepialmoaaPairsC
import Derived.Test.YthjlilepialmoaaPairsD
import Derived.Test.YthjlilepialmoaaPairsE
namespace Go.Proofs.Ythjlilepialmoaa.satPairs
open Go.RowKit Go.ChangeShapes Go.WideShapes sat satTotals
set_option linter.unusedVariables false

theorem one_case (L : PL) (h : L.length = 1) : totB L.length (Lx L) (Ly L) = false ∨ (totB L.length (Lx L) (Ly L) = true ∧ Lx L 0 = totX L.length (Lx L) (Ly L) ∧ Ly L 0 = totY L.length (Lx L) (Ly L)) := by
  obtain ⟨p, rfl⟩ := List.length_eq_one_iff.1 h
  by_cases k : okL [p]
  · obtain ⟨a, b, c⟩ := tot_list_yes [p] k
    refine Or.inr ⟨c, ?_, ?_⟩
    · rw [a]; simp [sumL, Lx]
    · rw [b]; simp [sumL, Ly]
  · exact Or.inl (tot_list_no [p] k).2.2

theorem early (a : Option Addr) (len cap : Nat) (cut : Int) (w : World) (hm : len ≤ maxLen) (fc : -9223372036854775808 ≤ cut ∧ cut ≤ 9223372036854775807) (h : 1000 < len ∨ cut < 0 ∨ (len : Int) < cut) :
    Calls Try.prog 9 #[.slice a len cap, .int .i64 cut] w fun e w' => e = .returned (.bool true) ∧ Below w.heap.size w w' := by
  unfold maxLen at hm
  have h' : 1000 < len ∨ (len ≤ 1000 ∧ cut < 0) ∨ (len ≤ 1000 ∧ 0 ≤ cut ∧ (len : Int) < cut) := by omega
  clear h
  rcases h' with h | ⟨h, h1⟩ | ⟨h, h1, h2⟩
  all_goals
    go_enter Try.func9, Try.ntmps9
    go_wp2_with fail
    refine (live_true _).mono ?_
    rintro e w' ⟨rfl, hb⟩
    go_wp2_with fail
    go_ret
    exact ⟨rfl, hb⟩

theorem walk (a : Option Addr) (len cap : Nat) (X Y : Nat → Int) (cut : Int) (w : World) (h : IsPairs w a len cap X Y) (wc : (Lit.int .i64 cut).wf = true) :
    Calls Try.prog 9 #[.slice a len cap, .int .i64 cut] w fun e w' => e = .returned (.bool true) ∧ Below w.heap.size w w' := by
  have hr := row_of h
  have fc := bounds_i64 wc
  by_cases c0 : 1000 < len ∨ cut < 0 ∨ (len : Int) < cut
  · exact early a len cap cut w hr.1 fc c0
  obtain ⟨k, rfl⟩ := Int.eq_ofNat_of_zero_le (show 0 ≤ cut by omega)
  have hk : k ≤ len := by omega
  rcases h with ⟨h0, h0'⟩ | ⟨b, off, rfl, hl, hcap, hc, _⟩
  · subst h0
    subst h0'
    have hk0 : k = 0 := by omega
    subst hk0
    cases a with
    | none => exact emptyC w
    | some ad => exact emptyD ad w
  · obtain ⟨L, hL⟩ : ∃ L, L = listOf X Y len := ⟨_, rfl⟩
    have hlen : L.length = len := by rw [hL]; exact listOf_len _ _ _
    have hr' := row_list hr
    rw [← hL] at hr'
    clear hL hc hr
    subst hlen
    by_cases hz : L.length = 0
    · have hk0 : k = 0 := by omega
      subst hk0
      rw [hz]
      by_cases hkc : 0 < cap
      · exact emptyE b off cap hcap hkc w
      · have hc0 : cap = 0 := by omega
        subst hc0
        exact emptyD _ w
    have HT : TotIs L.length cap (Lx L) (Ly L) (totX L.length (Lx L) (Ly L)) (totY L.length (Lx L) (Ly L)) (totB L.length (Lx L) (Ly L)) := fun a w hr => totals_any a L.length cap (Lx L) (Ly L) w hr
    have HU : OwnIs (L.drop k ++ L.take k) (totX L.length (Lx L) (Ly L)) (totY L.length (Lx L) (Ly L)) (totB L.length (Lx L) (Ly L)) := by
      have := own_of (L.drop k ++ L.take k)
      rw [(tot_turned L k).1, (tot_turned L k).2.1, (tot_turned L k).2.2] at this
      exact this
    have HS : OwnIs (swapL L) (totY L.length (Lx L) (Ly L)) (totX L.length (Lx L) (Ly L)) (totB L.length (Lx L) (Ly L)) := by
      have := own_of (swapL L)
      rw [(tot_swapped L).1, (tot_swapped L).2.1, (tot_swapped L).2.2] at this
      exact this
    have n1 : L.length ≠ 1 → ((L.length : Int) != 1) = true := by intro h; rw [bne_iff_ne]; omega
    have n2 : L.length = 1 → ((L.length : Int) != 1) = false := by intro h; rw [bne_eq_false_iff_eq]; omega
    by_cases hkc : k < cap
    · by_cases d : L.length = 1
      · rcases one_case L d with e | ⟨e, ex, ey⟩
        · exact coreA2 b off cap k L _ _ _ w (by omega) (by omega) hk hl hcap hkc hr' (n2 d) e (Lib.hid HT) (Lib.hid HU) (Lib.hid HS)
        · exact coreA3 b off cap k L _ _ _ w (by omega) (by omega) hk hl hcap hkc hr' (n2 d) e ex ey (Lib.hid HT) (Lib.hid HU) (Lib.hid HS)
      · exact coreA1 b off cap k L _ _ _ w (by omega) (by omega) hk hl hcap hkc hr' (n1 d) (Lib.hid HT) (Lib.hid HU) (Lib.hid HS)
    · have e1 : k = L.length := by omega
      have e2 : cap = L.length := by omega
      subst e2
      subst e1
      by_cases d : L.length = 1
      · rcases one_case L d with e | ⟨e, ex, ey⟩
        · exact coreB2 b off L.length L _ _ _ w (by omega) (by omega) rfl hcap hr' (n2 d) e (Lib.hid HT) (Lib.hid HU) (Lib.hid HS)
        · exact coreB3 b off L.length L _ _ _ w (by omega) (by omega) rfl hcap hr' (n2 d) e ex ey (Lib.hid HT) (Lib.hid HU) (Lib.hid HS)
      · exact coreB1 b off L.length L _ _ _ w (by omega) (by omega) rfl hcap hr' (n1 d) (Lib.hid HT) (Lib.hid HU) (Lib.hid HS)
end Go.Proofs.Ythjlilepialmoaa.satPairs
