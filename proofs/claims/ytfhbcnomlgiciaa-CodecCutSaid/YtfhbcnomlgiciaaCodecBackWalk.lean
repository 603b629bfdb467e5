/- The walk of hopperlaw03.CodecBack. -/
import Derived.Test.YtfhbcnomlgiciaaCodecLive
import Derived.Test.YtfhbcnomlgiciaaCodecRefNum
import Derived.OpenShut
namespace Go.Proofs.Ytfhbcnomlgiciaa.codecBack
open Go.RowKit Go.ChangeShapes Go.WideShapes codec
set_option linter.unusedVariables false

theorem num_eta (l : List UInt8) (s : ByteArray) : (⟨l.toArray⟩ : ByteArray) ++ s = ⟨(l ++ s.data.toList).toArray⟩ := by
  apply ByteArray.ext
  simp
theorem arr_eta (s : ByteArray) : (⟨s.data.toList.toArray⟩ : ByteArray) = s := by
  apply ByteArray.ext
  simp

/-- Any call of TakeNumber on what is spelt out. -/
theorem take_of (s : ByteArray) (l : List UInt8) (m : Int) (o : Option (Nat × List UInt8)) (v : Value) (hs : s = ⟨l.toArray⟩) (hl : l.length ≤ 100000) (ho : takeNum l m = o) (hv : retNum o = v) (w : World) :
    Calls Try.prog 15 #[.string s, .int .i64 m] w fun e w' => e = .returned v ∧ Below w.heap.size w w' := by
  subst hs ho hv
  exact ctakenum_any ⟨l.toArray⟩ m w (by unfold maxLen; show l.length ≤ _; omega)
theorem taket_of (s : ByteArray) (l : List UInt8) (m : Int) (o : Option (List UInt8 × List UInt8)) (v : Value) (hs : s = ⟨l.toArray⟩) (hl : l.length ≤ 100000) (ho : takeText l m = o) (hv : retText o = v) (w : World) :
    Calls Try.prog 17 #[.string s, .int .i64 m] w fun e w' => e = .returned v ∧ Below w.heap.size w w' := by
  subst hs ho hv
  exact ctaketext_any ⟨l.toArray⟩ m w (by unfold maxLen; show l.length ≤ _; omega)

theorem walk (n : Int) (s r : ByteArray) (w : World) (wn : (Lit.int .i64 n).wf = true) (ws : s.size ≤ maxLen) (wr : r.size ≤ maxLen) :
    Calls Try.prog 5 #[.int .i64 n, .string s, .string r] w fun e w' => e = .returned (.bool true) ∧ Below w.heap.size w w' := by
  have fn := bounds_i64 wn
  clear wn
  unfold maxLen at ws wr
  by_cases c : 2000 < s.size ∨ 2000 < r.size ∨ n < 0
  · have NO := Lib.hid (fun w => cnumber_no (min n (-1)) (by omega) w)
    have c' : (decide (2000 < (s.size : Int)) = true) ∨ (decide (2000 < (s.size : Int)) = false ∧ decide (2000 < (r.size : Int)) = true) ∨ (decide (2000 < (s.size : Int)) = false ∧ decide (2000 < (r.size : Int)) = false ∧ decide (n < 0) = true) := by
      simp
      omega
    clear c
    rcases c' with c1 | ⟨c1, c2⟩ | ⟨c1, c2, c3⟩
    all_goals
      go_enter Try.func5, Try.ntmps5
      go_wp2_with fail
      refine (NO.out _).mono ?_
      rintro e w1 ⟨rfl, rfl⟩
      go_wp2_with fail
      refine (live_true _).mono ?_
      rintro e w2 ⟨rfl, hb⟩
      go_wp2_with fail
      go_ret
      exact ⟨rfl, hb⟩
  · obtain ⟨k, rfl⟩ := Int.eq_ofNat_of_zero_le (show 0 ≤ n by omega)
    have c1 : decide (2000 < (s.size : Int)) = false := by simp; omega
    have c2 : decide (2000 < (r.size : Int)) = false := by simp; omega
    have hs : s.size ≤ 2000 := by omega
    have hr : r.size ≤ 2000 := by omega
    have hk : k < 9223372036854775808 := by omega
    have ls : s.data.toList.length = s.size := by simp
    have lr : r.data.toList.length = r.size := by simp
    have h9 := size_max k hk
    have hn := num_len k
    have ht := text_len s.data.toList
    have N := Lib.hid (fun w => cnumber k (by omega) w)
    have T := Lib.hid (fun w => ctext s w (by omega))
    have A1 := Lib.hid (take_of (⟨(num k).toArray⟩ ++ r) (num k ++ r.data.toList) k _ (.tuple #[.int .i64 k, .string r, .bool true]) (num_eta _ _) (by rw [List.length_append]; omega) (takeNum_num k _ _ hk) (by rw [if_pos (Int.le_refl _)]; simp only [retNum]))
    have A2 := Lib.hid (taket_of (⟨(text s.data.toList).toArray⟩ ++ r) (text s.data.toList ++ r.data.toList) s.size _ (.tuple #[.string s, .string r, .bool true]) (num_eta _ _) (by rw [List.length_append]; omega) (takeText_text _ _ _ (by omega)) (by rw [if_pos (by omega)]; simp only [retText]))
    have A3 := Lib.hid (take_of (⟨(num k).toArray⟩ ++ r) (num k ++ r.data.toList) ((k : Int) - 1) _ (.tuple #[.int .i64 0, .string ⟨#[]⟩, .bool false]) (num_eta _ _) (by rw [List.length_append]; omega) (takeNum_num k _ _ hk) (by rw [if_neg (by omega)]; rfl))
    have A4 := Lib.hid (taket_of (⟨(text s.data.toList).toArray⟩ ++ r) (text s.data.toList ++ r.data.toList) ((s.size : Int) - 1) _ (.tuple #[.string ⟨#[]⟩, .string ⟨#[]⟩, .bool false]) (num_eta _ _) (by rw [List.length_append]; omega) (takeText_text _ _ _ (by omega)) (by rw [if_neg (by omega)]; rfl))
    generalize num k = L at N A1 A3 hn
    generalize text s.data.toList = M at T A2 A4 ht
    have K := Lib.hid hk
    clear c hk ls lr
    go_enter Try.func5, Try.ntmps5
    go_wp2_with fail
    refine (N.out _).mono ?_
    rintro e w1 ⟨rfl, hb1⟩
    go_wp2_with fail
    refine (A1.out _).mono ?_
    rintro e w2 ⟨rfl, hb2⟩
    go_wp2_with fail
    refine (T.out _).mono ?_
    rintro e w3 ⟨rfl, hb3⟩
    go_wp2_with fail
    refine (A2.out _).mono ?_
    rintro e w4 ⟨rfl, hb4⟩
    go_wp2_with fail
    refine (N.out _).mono ?_
    rintro e w5 ⟨rfl, hb5⟩
    go_wp2_with fail
    refine (A3.out _).mono ?_
    rintro e w6 ⟨rfl, hb6⟩
    go_wp2_with fail
    refine (T.out _).mono ?_
    rintro e w7 ⟨rfl, hb7⟩
    go_wp2_with fail
    refine (A4.out _).mono ?_
    rintro e w8 ⟨rfl, hb8⟩
    go_wp2_with fail
    refine (live_true _).mono ?_
    rintro e w9 ⟨rfl, hb9⟩
    go_wp2_with fail
    go_ret
    exact ⟨rfl, later (later (later (later (later (later (later (later hb1 hb2) hb3) hb4) hb5) hb6) hb7) hb8) hb9⟩
end Go.Proofs.Ytfhbcnomlgiciaa.codecBack
