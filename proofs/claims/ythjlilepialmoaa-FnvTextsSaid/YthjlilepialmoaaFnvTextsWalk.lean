import Derived.Test.YthjlilepialmoaaFnvLive
import Derived.Test.YthjlilepialmoaaFnvFacts
import Derived.Test.YthjlilepialmoaaFnvShardsWalk
namespace Go.Proofs.Ythjlilepialmoaa.fnvTexts
open Go.RowKit Go.ChangeShapes Go.WideShapes fnv
set_option linter.unusedVariables false

abbrev TextIs (a : Int) (s : ByteArray) : Prop := ∀ w, Calls Try.prog 31 #[.int .u64 a] w fun e w' => e = .returned (.string s) ∧ Below w.heap.size w w'

theorem core (a b : Int) (x y : ByteArray) (w : World) (H1 : Hid (TextIs a x)) (H2 : Hid (TextIs b y)) (hx : x.size = 16) (hy : y.size = 16)
    (he : (x.toList == y.toList) = (a == b)) (hl : Op.bytesLess x.toList y.toList = decide (a < b)) :
    Calls Try.prog 12 #[.int .u64 a, .int .u64 b] w fun e w' => e = .returned (.bool true) ∧ Below w.heap.size w w' := by
  go_enter Try.func12, Try.ntmps12
  go_wp2_with fail
  refine (H1.out _).mono ?_
  rintro e w1 ⟨rfl, hb1⟩
  go_wp2_with fail
  refine (H2.out _).mono ?_
  rintro e w2 ⟨rfl, hb2⟩
  go_wp2_with fail
  refine (live_true _).mono ?_
  rintro e w3 ⟨rfl, hb3⟩
  go_wp2_with fail
  go_ret
  exact ⟨rfl, fnvShards.chain (fnvShards.chain hb1 hb2) hb3⟩

theorem walk (a b : Int) (w : World) (wa : (Lit.int .u64 a).wf = true) (wb : (Lit.int .u64 b).wf = true) :
    Calls Try.prog 12 #[.int .u64 a, .int .u64 b] w fun e w' => e = .returned (.bool true) ∧ Below w.heap.size w w' := by
  have fa := bounds_u64 wa
  have fb := bounds_u64 wb
  obtain ⟨m, rfl⟩ := Int.eq_ofNat_of_zero_le fa.1
  obtain ⟨n, rfl⟩ := Int.eq_ofNat_of_zero_le fb.1
  have hm : m < 16 ^ 16 := by omega
  have hn : n < 16 ^ 16 := by omega
  refine core m n ⟨(digits 16 m).toArray⟩ ⟨(digits 16 n).toArray⟩ w (Lib.hid fun w => text m w (by omega)) (Lib.hid fun w => text n w (by omega)) ?_ ?_ ?_ ?_
  · show (digits 16 m).toArray.size = 16
    simp [digits_len]
  · show (digits 16 n).toArray.size = 16
    simp [digits_len]
  · rw [ByteArray.toList_eq, ByteArray.toList_eq, Bool.eq_iff_iff]
    simp [digits_eq 16 m n hm hn]
    omega
  · rw [ByteArray.toList_eq, ByteArray.toList_eq]
    show Op.bytesLess (digits 16 m) (digits 16 n) = _
    rw [digits_less 16 m n hm hn]
    simp
end Go.Proofs.Ythjlilepialmoaa.fnvTexts
