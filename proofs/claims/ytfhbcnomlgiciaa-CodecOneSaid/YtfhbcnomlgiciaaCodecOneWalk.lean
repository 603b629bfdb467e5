/- The walk of hopperlaw03.CodecOne. -/
import Derived.Test.YtfhbcnomlgiciaaCodecLive
import Derived.Test.YtfhbcnomlgiciaaCodecRefNum
import Derived.OpenShut
namespace Go.Proofs.Ytfhbcnomlgiciaa.codecOne
open Go.RowKit Go.ChangeShapes Go.WideShapes codec
set_option linter.unusedVariables false

theorem two_eq (a b : List UInt8) (s : ByteArray) (h : s.data.toList = a ++ b) : (⟨a.toArray⟩ : ByteArray) ++ ⟨b.toArray⟩ = s := by
  apply ByteArray.ext
  apply Array.toList_inj.1
  rw [h]
  simp

theorem walk (s : ByteArray) (m : Int) (w : World) (ws : s.size ≤ maxLen) (wm : (Lit.int .i64 m).wf = true) :
    Calls Try.prog 6 #[.string s, .int .i64 m] w fun e w' => e = .returned (.bool true) ∧ Below w.heap.size w w' := by
  have fm := bounds_i64 wm
  clear wm
  have N := Lib.hid (fun w => ctakenum_any s m w ws)
  have T := Lib.hid (fun w => ctaketext_any s m w ws)
  unfold maxLen at ws
  have ls : s.data.toList.length = s.size := by simp
  by_cases c : 2000 < s.size
  · have c1 : decide (2000 < (s.size : Int)) = true := by simp; omega
    clear c
    go_enter Try.func6, Try.ntmps6
    go_wp2_with fail
    refine (live_true _).mono ?_
    rintro e w1 ⟨rfl, hb1⟩
    go_wp2_with fail
    go_ret
    exact ⟨rfl, hb1⟩
  · have c1 : decide (2000 < (s.size : Int)) = false := by simp; omega
    rcases hx : takeNum s.data.toList m with _ | ⟨n, r⟩ <;> rcases hy : takeText s.data.toList m with _ | ⟨t, q⟩ <;> rw [hx] at N <;> rw [hy] at T <;> simp only [retNum, retText] at N T
    · clear c
      go_enter Try.func6, Try.ntmps6
      go_wp2_with fail
      refine (N.out _).mono ?_
      rintro e w1 ⟨rfl, hb1⟩
      go_wp2_with fail
      refine (T.out _).mono ?_
      rintro e w2 ⟨rfl, hb2⟩
      go_wp2_with fail
      refine (live_true _).mono ?_
      rintro e w3 ⟨rfl, hb3⟩
      go_wp2_with fail
      go_ret
      exact ⟨rfl, later (later hb1 hb2) hb3⟩
    · obtain ⟨e, h1, h2⟩ := takeText_some _ _ _ _ hy
      have E := two_eq _ _ s e
      have M := Lib.hid (fun w => ctext ⟨t.toArray⟩ w (by show t.length ≤ _; omega))
      have ht : t.length + 2 ≤ 2000 := by
        have := congrArg List.length e
        rw [List.length_append, text_len] at this
        omega
      have c2 : decide ((t.length : Int) ≤ m) = true := by simp; omega
      have hq := congrArg List.length e
      rw [List.length_append, text_len, ls] at hq
      simp only [] at M
      have lM := text_len t
      generalize text t = L at M E lM
      have HQ := Lib.hid hq
      have hq2 : q.length ≤ 2000 := by omega
      clear hx hy e h2 c ls hq
      go_enter Try.func6, Try.ntmps6
      go_wp2_with fail
      refine (N.out _).mono ?_
      rintro e w1 ⟨rfl, hb1⟩
      go_wp2_with fail
      refine (T.out _).mono ?_
      rintro e w2 ⟨rfl, hb2⟩
      go_wp2_with fail
      refine (M.out _).mono ?_
      rintro e w3 ⟨rfl, hb3⟩
      go_wp2_with fail
      refine (live_true _).mono ?_
      rintro e w4 ⟨rfl, hb4⟩
      go_wp2_with fail
      go_ret
      exact ⟨rfl, later (later (later hb1 hb2) hb3) hb4⟩
    · obtain ⟨e, h1, h2⟩ := takeNum_some _ _ _ _ hx
      have E := two_eq _ _ s e
      have M := Lib.hid (fun w => cnumber n (by omega) w)
      have c2 : decide (m < (n : Int)) = false := by simp; omega
      have hq := congrArg List.length e
      rw [List.length_append, num_len, ls] at hq
      have lM := num_len n
      have h9 := size_max n h1
      generalize num n = L at M E lM
      have hr2 : r.length ≤ 2000 := by omega
      have hL2 : L.length ≤ 9 := by omega
      have H1 := Lib.hid h1
      clear hx hy e h2 c ls hq lM h1
      go_enter Try.func6, Try.ntmps6
      go_wp2_with fail
      refine (N.out _).mono ?_
      rintro e w1 ⟨rfl, hb1⟩
      go_wp2_with fail
      refine (T.out _).mono ?_
      rintro e w2 ⟨rfl, hb2⟩
      go_wp2_with fail
      refine (M.out _).mono ?_
      rintro e w3 ⟨rfl, hb3⟩
      go_wp2_with fail
      refine (live_true _).mono ?_
      rintro e w4 ⟨rfl, hb4⟩
      go_wp2_with fail
      go_ret
      exact ⟨rfl, later (later (later hb1 hb2) hb3) hb4⟩
    · obtain ⟨e, h1, h2⟩ := takeNum_some _ _ _ _ hx
      obtain ⟨e', h1', h2'⟩ := takeText_some _ _ _ _ hy
      have E := two_eq _ _ s e
      have E' := two_eq _ _ s e'
      have M := Lib.hid (fun w => cnumber n (by omega) w)
      have M' := Lib.hid (fun w => ctext ⟨t.toArray⟩ w (by show t.length ≤ _; omega))
      have c2 : decide (m < (n : Int)) = false := by simp; omega
      have c3 : decide ((t.length : Int) ≤ m) = true := by simp; omega
      have hq := congrArg List.length e
      rw [List.length_append, num_len, ls] at hq
      have hq' := congrArg List.length e'
      rw [List.length_append, text_len, ls] at hq'
      have lM := num_len n
      have lM' := text_len t
      have h9 := size_max n h1
      simp only [] at M'
      generalize num n = L at M E lM
      generalize text t = L' at M' E' lM'
      have hr2 : r.length ≤ 2000 := by omega
      have hL2 : L.length ≤ 9 := by omega
      have hr3 : q.length ≤ 2000 := by omega
      have ht3 : t.length ≤ 2000 := by omega
      have hL3 : L'.length ≤ 3000 := by omega
      have H1 := Lib.hid h1
      clear hx hy e e' h2 h2' h1' c ls hq hq' lM lM' h1
      go_enter Try.func6, Try.ntmps6
      go_wp2_with fail
      refine (N.out _).mono ?_
      rintro e w1 ⟨rfl, hb1⟩
      go_wp2_with fail
      refine (T.out _).mono ?_
      rintro e w2 ⟨rfl, hb2⟩
      go_wp2_with fail
      refine (M.out _).mono ?_
      rintro e w3 ⟨rfl, hb3⟩
      go_wp2_with fail
      refine (M'.out _).mono ?_
      rintro e w4 ⟨rfl, hb4⟩
      go_wp2_with fail
      refine (live_true _).mono ?_
      rintro e w5 ⟨rfl, hb5⟩
      go_wp2_with fail
      go_ret
      exact ⟨rfl, later (later (later (later hb1 hb2) hb3) hb4) hb5⟩
end Go.Proofs.Ytfhbcnomlgiciaa.codecOne
