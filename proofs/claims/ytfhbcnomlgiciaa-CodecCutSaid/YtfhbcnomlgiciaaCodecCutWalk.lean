/- The walk of hopperlaw03.CodecCut. -/
import Derived.Test.YtfhbcnomlgiciaaCodecLive
import Derived.Test.YtfhbcnomlgiciaaCodecRefNum
import Derived.OpenShut
import Derived.Test.YtfhbcnomlgiciaaCodecBackWalk
namespace Go.Proofs.Ytfhbcnomlgiciaa.codecCut
open Go.RowKit Go.ChangeShapes Go.WideShapes codec
set_option linter.unusedVariables false

theorem cut_num (k j : Nat) (m : Int) (hk : k < 9223372036854775808) (hj : j < (num k).length) : takeNum ((num k).take j) m = none := by
  rcases h : takeNum ((num k).take j) m with _ | ⟨n, r⟩
  · rfl
  · obtain ⟨e, h1, h2⟩ := takeNum_some _ _ _ _ h
    exfalso
    have e2 : num k ++ [] = num n ++ (r ++ (num k).drop j) := by
      rw [List.append_nil, ← List.append_assoc, ← e, List.take_append_drop]
    have g1 := takeNum_num k [] (max k n) hk
    rw [e2, takeNum_num n _ _ h1, if_pos (by omega), if_pos (by omega)] at g1
    simp only [Option.some.injEq, Prod.mk.injEq, List.append_eq_nil_iff] at g1
    have := congrArg List.length g1.2.2
    rw [List.length_drop] at this
    simp at this
    omega
theorem cut_text (t : List UInt8) (j : Nat) (m : Int) (ht : t.length ≤ 65535) (hj : j < (text t).length) : takeText ((text t).take j) m = none := by
  rcases h : takeText ((text t).take j) m with _ | ⟨u, r⟩
  · rfl
  · obtain ⟨e, h1, h2⟩ := takeText_some _ _ _ _ h
    exfalso
    have e2 : text t ++ [] = text u ++ (r ++ (text t).drop j) := by
      rw [List.append_nil, ← List.append_assoc, ← e, List.take_append_drop]
    have g1 := takeText_text t [] (max t.length u.length) ht
    rw [e2, takeText_text u _ _ h1, if_pos (by omega), if_pos (by omega)] at g1
    simp only [Option.some.injEq, Prod.mk.injEq, List.append_eq_nil_iff] at g1
    have := congrArg List.length g1.2.2
    rw [List.length_drop] at this
    simp at this
    omega
theorem lit_cut (L : List UInt8) (j : Nat) (hj : j ≤ L.length) (w : World) :
    (Instr.slice 9 (.string ⟨L.toArray⟩) none (some (.int .i64 (j : Int))) none).run Try.prog w = .ok (.string ⟨(L.take j).toArray⟩) w :=
  str_to ⟨L.toArray⟩ j j rfl hj w

set_option maxHeartbeats 1000000 in
theorem walk (n : Int) (t : ByteArray) (cut : Int) (w : World) (wn : (Lit.int .i64 n).wf = true) (ws : t.size ≤ maxLen) (wc : (Lit.int .i64 cut).wf = true) :
    Calls Try.prog 8 #[.int .i64 n, .string t, .int .i64 cut] w fun e w' => e = .returned (.bool true) ∧ Below w.heap.size w w' := by
  have fn := bounds_i64 wn
  have fc := bounds_i64 wc
  clear wn wc
  unfold maxLen at ws
  by_cases c : 2000 < t.size ∨ n < 0 ∨ cut < 0
  · have c' : (decide (2000 < (t.size : Int)) = true) ∨ (decide (2000 < (t.size : Int)) = false ∧ decide (n < 0) = true) ∨ (decide (2000 < (t.size : Int)) = false ∧ decide (n < 0) = false ∧ decide (cut < 0) = true) := by
      simp
      omega
    clear c
    rcases c' with c1 | ⟨c1, c2⟩ | ⟨c1, c2, c3⟩
    all_goals
      go_enter Try.func8, Try.ntmps8
      go_wp2_with fail
      refine (live_true _).mono ?_
      rintro e w1 ⟨rfl, hb1⟩
      go_wp2_with fail
      go_ret
      exact ⟨rfl, hb1⟩
  · obtain ⟨k, rfl⟩ := Int.eq_ofNat_of_zero_le (show 0 ≤ n by omega)
    obtain ⟨j, rfl⟩ := Int.eq_ofNat_of_zero_le (show 0 ≤ cut by omega)
    have c1 : decide (2000 < (t.size : Int)) = false := by simp; omega
    have hs : t.size ≤ 2000 := by omega
    have hk : k < 9223372036854775808 := by omega
    have lt : t.data.toList.length = t.size := by simp
    have h9 := size_max k hk
    have hp := size_pos k
    have hn := num_len k
    have ht := text_len t.data.toList
    rw [lt] at ht
    have N := Lib.hid (fun w => cnumber k (by omega) w)
    have T := Lib.hid (fun w => ctext t w (by omega))
    have A1 := Lib.hid (fun h => codecBack.take_of ⟨((num k).take j).toArray⟩ _ k _ (.tuple #[.int .i64 0, .string ⟨#[]⟩, .bool false]) rfl (by rw [List.length_take]; omega) (cut_num k j k hk h) rfl)
    have A2 := Lib.hid (fun h => codecBack.taket_of ⟨((text t.data.toList).take j).toArray⟩ _ t.size _ (.tuple #[.string ⟨#[]⟩, .string ⟨#[]⟩, .bool false]) rfl (by rw [List.length_take]; omega) (cut_text t.data.toList j t.size (by omega) h) rfl)
    have A4 := Lib.hid (codecBack.taket_of ⟨(text t.data.toList).toArray⟩ _ 60000 (some (t.data.toList, [])) (.tuple #[.string t, .string ⟨#[]⟩, .bool true]) rfl (by omega) (by have := takeText_text t.data.toList [] 60000 (by omega); rw [List.append_nil] at this; rw [this, if_pos (by omega)]) (by simp only [retText]))
    have g3 : takeNum (num k) 4611686018427387904 = if (k : Int) ≤ 4611686018427387904 then some (k, []) else none := by
      have := takeNum_num k [] 4611686018427387904 hk
      rwa [List.append_nil] at this
    have A3 := Lib.hid (fun o v hv ho => codecBack.take_of ⟨(num k).toArray⟩ _ 4611686018427387904 o v rfl (by omega) ho hv)
    obtain ⟨c6, c7⟩ : decide (2 ≤ ((num k).length : Int)) = true ∧ decide (((num k).length : Int) ≤ 9) = true := by simp; omega
    have S1 := Lib.hid (lit_cut (num k) j)
    have S2 := Lib.hid (lit_cut (text t.data.toList) j)
    have D : (k : Int) ≤ 4611686018427387904 ∨ 4611686018427387904 < (k : Int) := by omega
    have D1 : j < (num k).length ∨ (num k).length ≤ j := by omega
    have D2 : j < (text t.data.toList).length ∨ (text t.data.toList).length ≤ j := by omega
    generalize num k = L at N A1 A3 hn g3 S1 D1 c6 c7
    generalize text t.data.toList = M at T A2 A4 ht S2 D2
    have K := Lib.hid hk
    have hL9 : L.length ≤ 9 := by omega
    have c8 : ((M.length : Int) == (t.size : Int) + 2) = true := by simp; omega
    have HT := Lib.hid ht
    have hM3 : M.length ≤ 3000 := by omega
    clear c hk lt h9 hp hn ht
    rcases D with d | d
    all_goals
      first
        | (have B := Lib.hid (A3.out _ (.tuple #[.int .i64 k, .string ⟨#[]⟩, .bool true]) (by rw [if_pos d]; rfl) g3)
           have b1 : decide (4611686018427387904 < (k : Int)) = false := by simp; omega)
        | (have B := Lib.hid (A3.out _ (.tuple #[.int .i64 0, .string ⟨#[]⟩, .bool false]) (by rw [if_neg (by omega)]; rfl) g3)
           have b1 : decide (4611686018427387904 < (k : Int)) = true := by simp; omega)
      clear A3 g3 d
      rcases D1 with d1 | d1 <;> rcases D2 with d2 | d2
      · have e1 : decide ((j : Int) < (L.length : Int)) = true := by simp; omega
        have e1n : decide (j < L.length) = true := by simp; omega
        have e2 : decide ((j : Int) < (M.length : Int)) = true := by simp; omega
        have e2n : decide (j < M.length) = true := by simp; omega
        have A1 := Lib.hid (A1.out d1)
        have A2 := Lib.hid (A2.out d2)
        have S1 := S1.out (by omega)
        have S2 := S2.out (by omega)
        clear d1 d2
        go_enter Try.func8, Try.ntmps8
        go_wp2_with fail
        refine (N.out _).mono ?_
        rintro e w1 ⟨rfl, hb1⟩
        go_wp2_with fail
        refine (T.out _).mono ?_
        rintro e w2 ⟨rfl, hb2⟩
        go_wp2_with fail
        refine (A1.out _).mono ?_
        rintro e w3 ⟨rfl, hb3⟩
        go_wp2_with fail
        refine (A2.out _).mono ?_
        rintro e w4 ⟨rfl, hb4⟩
        go_wp2_with fail
        refine (B.out _).mono ?_
        rintro e w5 ⟨rfl, hb5⟩
        go_wp2_with fail
        refine (A4.out _).mono ?_
        rintro e w6 ⟨rfl, hb6⟩
        go_wp2_with fail
        refine (live_true _).mono ?_
        rintro e w7 ⟨rfl, hb7⟩
        go_wp2_with fail
        go_ret
        exact ⟨rfl, later (later (later (later (later (later hb1 hb2) hb3) hb4) hb5) hb6) hb7⟩
      · have e1 : decide ((j : Int) < (L.length : Int)) = true := by simp; omega
        have e1n : decide (j < L.length) = true := by simp; omega
        have e2 : decide ((j : Int) < (M.length : Int)) = false := by simp; omega
        have e2n : decide (j < M.length) = false := by simp; omega
        have A1 := Lib.hid (A1.out d1)
        have S1 := S1.out (by omega)
        clear d1 d2
        go_enter Try.func8, Try.ntmps8
        go_wp2_with fail
        refine (N.out _).mono ?_
        rintro e w1 ⟨rfl, hb1⟩
        go_wp2_with fail
        refine (T.out _).mono ?_
        rintro e w2 ⟨rfl, hb2⟩
        go_wp2_with fail
        refine (A1.out _).mono ?_
        rintro e w3 ⟨rfl, hb3⟩
        go_wp2_with fail
        refine (B.out _).mono ?_
        rintro e w4 ⟨rfl, hb4⟩
        go_wp2_with fail
        refine (A4.out _).mono ?_
        rintro e w5 ⟨rfl, hb5⟩
        go_wp2_with fail
        refine (live_true _).mono ?_
        rintro e w6 ⟨rfl, hb6⟩
        go_wp2_with fail
        go_ret
        exact ⟨rfl, later (later (later (later (later hb1 hb2) hb3) hb4) hb5) hb6⟩
      · have e1 : decide ((j : Int) < (L.length : Int)) = false := by simp; omega
        have e1n : decide (j < L.length) = false := by simp; omega
        have e2 : decide ((j : Int) < (M.length : Int)) = true := by simp; omega
        have e2n : decide (j < M.length) = true := by simp; omega
        have A2 := Lib.hid (A2.out d2)
        have S2 := S2.out (by omega)
        clear d1 d2
        go_enter Try.func8, Try.ntmps8
        go_wp2_with fail
        refine (N.out _).mono ?_
        rintro e w1 ⟨rfl, hb1⟩
        go_wp2_with fail
        refine (T.out _).mono ?_
        rintro e w2 ⟨rfl, hb2⟩
        go_wp2_with fail
        refine (A2.out _).mono ?_
        rintro e w3 ⟨rfl, hb3⟩
        go_wp2_with fail
        refine (B.out _).mono ?_
        rintro e w4 ⟨rfl, hb4⟩
        go_wp2_with fail
        refine (A4.out _).mono ?_
        rintro e w5 ⟨rfl, hb5⟩
        go_wp2_with fail
        refine (live_true _).mono ?_
        rintro e w6 ⟨rfl, hb6⟩
        go_wp2_with fail
        go_ret
        exact ⟨rfl, later (later (later (later (later hb1 hb2) hb3) hb4) hb5) hb6⟩
      · have e1 : decide ((j : Int) < (L.length : Int)) = false := by simp; omega
        have e1n : decide (j < L.length) = false := by simp; omega
        have e2 : decide ((j : Int) < (M.length : Int)) = false := by simp; omega
        have e2n : decide (j < M.length) = false := by simp; omega
        clear d1 d2
        go_enter Try.func8, Try.ntmps8
        go_wp2_with fail
        refine (N.out _).mono ?_
        rintro e w1 ⟨rfl, hb1⟩
        go_wp2_with fail
        refine (T.out _).mono ?_
        rintro e w2 ⟨rfl, hb2⟩
        go_wp2_with fail
        refine (B.out _).mono ?_
        rintro e w3 ⟨rfl, hb3⟩
        go_wp2_with fail
        refine (A4.out _).mono ?_
        rintro e w4 ⟨rfl, hb4⟩
        go_wp2_with fail
        refine (live_true _).mono ?_
        rintro e w5 ⟨rfl, hb5⟩
        go_wp2_with fail
        go_ret
        exact ⟨rfl, later (later (later (later hb1 hb2) hb3) hb4) hb5⟩
end Go.Proofs.Ytfhbcnomlgiciaa.codecCut
