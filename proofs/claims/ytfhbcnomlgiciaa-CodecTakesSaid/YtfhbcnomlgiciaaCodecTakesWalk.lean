/- The walk of hopperlaw03.CodecTakes. -/
import Derived.Test.YtfhbcnomlgiciaaCodecLive
import Derived.Test.YtfhbcnomlgiciaaCodecRefNum
import Derived.OpenShut
namespace Go.Proofs.Ytfhbcnomlgiciaa.codecTakes
open Go.RowKit Go.ChangeShapes Go.WideShapes codec
set_option linter.unusedVariables false

theorem walk (s : ByteArray) (m : Int) (w : World) (ws : s.size ≤ maxLen) (_ : (Lit.int .i64 m).wf = true) :
    Calls Try.prog 4 #[.string s, .int .i64 m] w fun e w' => e = .returned (.bool true) ∧ Below w.heap.size w w' := by
  have N1 := Lib.hid (fun w => ctakenum_any s m w ws)
  have N2 := Lib.hid (fun w => rtakenum_any s m w ws)
  have T1 := Lib.hid (fun w => ctaketext_any s m w ws)
  have T2 := Lib.hid (fun w => rtaketext_any s m w ws)
  unfold maxLen at ws
  generalize takeNum s.data.toList m = x at N1 N2
  generalize takeText s.data.toList m = y at T1 T2
  by_cases c : 70000 < s.size
  · have c1 : decide (70000 < (s.size : Int)) = true := by simp; omega
    clear c
    go_enter Try.func4, Try.ntmps4
    go_wp2_with fail
    refine (live_true _).mono ?_
    rintro e w1 ⟨rfl, hb1⟩
    go_wp2_with fail
    go_ret
    exact ⟨rfl, hb1⟩
  · have c1 : decide (70000 < (s.size : Int)) = false := by simp; omega
    clear c
    rcases x with _ | ⟨n, r⟩ <;> rcases y with _ | ⟨t, q⟩ <;> simp only [retNum, retText] at N1 N2 T1 T2
    all_goals
      go_enter Try.func4, Try.ntmps4
      go_wp2_with fail
      refine (N1.out _).mono ?_
      rintro e w1 ⟨rfl, hb1⟩
      go_wp2_with fail
      refine (N2.out _).mono ?_
      rintro e w2 ⟨rfl, hb2⟩
      go_wp2_with fail
      refine (T1.out _).mono ?_
      rintro e w3 ⟨rfl, hb3⟩
      go_wp2_with fail
      refine (T2.out _).mono ?_
      rintro e w4 ⟨rfl, hb4⟩
      go_wp2_with fail
      refine (live_true _).mono ?_
      rintro e w5 ⟨rfl, hb5⟩
      go_wp2_with fail
      go_ret
      exact ⟨rfl, later (later (later (later hb1 hb2) hb3) hb4) hb5⟩
end Go.Proofs.Ytfhbcnomlgiciaa.codecTakes
