/- The walk of hopperlaw03.CodecWrites. -/
import Derived.Test.YtfhbcnomlgiciaaCodecLive
import Derived.Test.YtfhbcnomlgiciaaCodecRefNum
import Derived.OpenShut
namespace Go.Proofs.Ytfhbcnomlgiciaa.codecWrites
open Go.RowKit Go.ChangeShapes Go.WideShapes codec
set_option linter.unusedVariables false

theorem walk (n : Int) (s : ByteArray) (w : World) (wn : (Lit.int .i64 n).wf = true) (ws : s.size ≤ maxLen) :
    Calls Try.prog 3 #[.int .i64 n, .string s] w fun e w' => e = .returned (.bool true) ∧ Below w.heap.size w w' := by
  have fn := bounds_i64 wn
  have N1 := Lib.hid (fun w => cnumber_any n w (by omega))
  have N2 := Lib.hid (fun w => rnumber_any n w (by omega))
  have T1 := Lib.hid (fun w => ctext_any s w ws)
  have T2 := Lib.hid (fun w => rtextf_any s w ws)
  unfold maxLen at ws
  clear wn fn
  generalize numV n = L at N1 N2
  generalize textV s.data.toList = M at T1 T2
  by_cases c : 70000 < s.size
  · have c1 : decide (70000 < (s.size : Int)) = true := by simp; omega
    clear c
    go_enter Try.func3, Try.ntmps3
    go_wp2_with fail
    refine (live_true _).mono ?_
    rintro e w1 ⟨rfl, hb1⟩
    go_wp2_with fail
    go_ret
    exact ⟨rfl, hb1⟩
  · have c1 : decide (70000 < (s.size : Int)) = false := by simp; omega
    clear c
    go_enter Try.func3, Try.ntmps3
    go_wp2_with fail
    refine (N1.out _).mono ?_
    rintro e w1 ⟨rfl, hb1⟩
    go_wp2_with fail
    refine (N2.out _).mono ?_
    rintro e w2 ⟨rfl, hb2⟩
    go_wp2_with fail
    refine (T1.out _).mono ?_
    rintro e w3 ⟨rfl, hb3⟩
    go_wp2_with fail
    refine (T2.out _).mono ?_
    rintro e w4 ⟨rfl, hb4⟩
    go_wp2_with fail
    refine (live_true _).mono ?_
    rintro e w5 ⟨rfl, hb5⟩
    go_wp2_with fail
    go_ret
    exact ⟨rfl, later (later (later (later hb1 hb2) hb3) hb4) hb5⟩
end Go.Proofs.Ytfhbcnomlgiciaa.codecWrites
