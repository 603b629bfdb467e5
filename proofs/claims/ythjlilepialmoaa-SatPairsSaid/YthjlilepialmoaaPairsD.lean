import Derived.Test.YthjlilepialmoaaPairsLem
namespace Go.Proofs.Ythjlilepialmoaa.satPairs
open Go.RowKit Go.ChangeShapes Go.WideShapes sat satTotals
set_option linter.unusedVariables false

set_option maxHeartbeats 8000000 in
/-- No element: and no room. -/
theorem emptyD (ad : Addr) (w : World) :
    Calls Try.prog 9 #[.slice (some ad) 0 0, .int .i64 0] w fun e w' => e = .returned (.bool true) ∧ Below w.heap.size w w' := by
  obtain ⟨i0, hi, hz0, hz1, hz2⟩ := info_parts infoP
  have HU : Hid (OwnIs [] 0 0 true) := Lib.hid own_none
  go_enter Try.func9, Try.ntmps9
  go_wp2_with fail
  refine (totals_nil _ _ _).mono ?_
  rintro e w1 ⟨rfl, hb1⟩
  have hown0 : ((w1.alloc (.cells #[.int .i64 0, .int .i64 0] 29 (0, 0))).alloc (.cells #[] 29 (0, 0))).ownsRow (w1.heap.size + 1) 29 2 (.slice (some ⟨w1.heap.size + 1, 0, none⟩) 0 0) 0 [] := by
    have h := World.ownsRow_made (base := w1.heap.size + 1) (e := 29) (size := 2) (w1.alloc (.cells #[.int .i64 0, .int .i64 0] 29 (0, 0))) #[] 0 (by simp) (by simp) rfl
    simpa using h
  have B1 : Below w.heap.size w ((w1.alloc (.cells #[.int .i64 0, .int .i64 0] 29 (0, 0))).alloc (.cells #[] 29 (0, 0))) := (hb1.alloc hb1.size _).alloc (by have := hb1.size; simp; omega) _
  have A1 : Below (w1.heap.size + 1) (w1.alloc (.cells #[.int .i64 0, .int .i64 0] 29 (0, 0))) ((w1.alloc (.cells #[.int .i64 0, .int .i64 0] 29 (0, 0))).alloc (.cells #[] 29 (0, 0))) := (Below.refl _ _).alloc (by simp) _
  have bs := hb1.size
  have tok1 : True := trivial
  have tok2 : True := trivial
  go_wp2_with (first | (at_builtin; have _t := tok1; refine wpList_append_own _ rfl (.tmp 33) (.tmp 36) 28 rfl (w1.heap.size + 1) 29 i0 (.agg #[.int .i64 0, .int .i64 0]) 2 16 Try.underlying28 hi hz0 hz1 hz2 rfl (by decide) (.slice (some ⟨w1.heap.size + 1, 0, none⟩) 0 0) 0 [] rfl hown0 ad 0 0 (cellsL []) rfl rfl (news_none _ _) (cellsL_one _) (by unfold maxLen; omega) (by omega) (by simp) ?_; intro v1 W2 own1 gr1 nil1; clear nil1; go_must (have F := empty_first bs B1 A1 rfl (by simp) gr1 own1); replace F := Lib.hid F; clear own1 gr1 tok1 B1 A1 hown0) | (at_builtin; have _t := tok2; refine wpList_append_own _ rfl (.tmp 38) (.tmp 41) 28 rfl (w1.heap.size + 1) 29 i0 (.agg #[.int .i64 0, .int .i64 0]) 2 16 Try.underlying28 hi hz0 hz1 hz2 rfl (by decide) v1 0 [] rfl F.out.own ad 0 0 (cellsL []) rfl rfl (news_none _ _) (cellsL_one _) (by unfold maxLen; omega) (by omega) F.out.size ?_; intro v2 W3 own2 gr2 nil2; clear tok2 nil2))
  have G := Lib.hid (empty_two F.out own2 gr2)
  clear own2 gr2 F
  refine (HU.out _ _ _ G.out.own).mono ?_
  rintro e w4 ⟨rfl, hb4⟩
  have I := Lib.hid (third_done G.out hb4)
  clear G hb4
  go_wp2_with fail
  generalize w4.alloc (.cells #[.int .i64 0, .int .i64 0] 29 (0, 0)) = W5 at I ⊢
  refine wp_loop_rounds 1 ?_
  rw [rounds_succ]
  go_wp2_with fail
  refine (HU.out (.slice none 0 0) 0 _ (World.ownsRow_nil _ _ _ _)).mono ?_
  rintro e w7 ⟨rfl, hb7⟩
  have J := empty_last I.out hb7
  clear hb7 I hi hz0 hz1 hz2 bs hb1
  go_wp2_with fail
  generalize w7.alloc (.cells #[.int .i64 0, .int .i64 0] 29 (0, 0)) = W8 at J ⊢
  have heq1 := fun w => eq_two 0 0 0 0 w
  obtain ⟨a1, a2, a3, a4, a5, a6, a9⟩ := J
  have HD := Lib.hid a9.drew
  clear a9
  go_still_tail 39, (by kernel_rfl)
  change wpList _ _ _ _ _ W8.drew
  generalize W8.drew = W9 at HD ⊢
  go_wp2_with fail
  refine (live_true _).mono ?_
  rintro e w9 ⟨rfl, hb9⟩
  go_wp2_with fail
  go_ret
  exact ⟨rfl, HD.out.trans (hb9.mono HD.out.size)⟩
end Go.Proofs.Ythjlilepialmoaa.satPairs
