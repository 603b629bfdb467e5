import Derived.Test.YthjlilepialmoaaPairsLem
namespace Go.Proofs.Ythjlilepialmoaa.satPairs
open Go.RowKit Go.ChangeShapes Go.WideShapes sat satTotals
set_option linter.unusedVariables false

set_option maxHeartbeats 8000000 in
/-- The cut lies within the room. -/
theorem coreA2 (b off cap k : Nat) (L : PL) (tx ty : Int) (tb : Bool) (w : World) (hl : L.length ≤ 1000) (h0 : 0 < L.length) (hk : k ≤ L.length) (hlc : L.length ≤ cap) (hcap : cap ≤ maxLen) (hkc : k < cap)
    (hr : Row w (some ⟨b, off, none⟩) L.length (Lx L) (Ly L))
    (hc : ((L.length : Int) != 1) = false) (htb : tb = false)
    (HT : Hid (TotIs L.length cap (Lx L) (Ly L) tx ty tb)) (HU : Hid (OwnIs (L.drop k ++ L.take k) tx ty tb)) (HS : Hid (OwnIs (swapL L) ty tx tb)) :
    Calls Try.prog 9 #[.slice (some ⟨b, off, none⟩) L.length cap, .int .i64 k] w fun e w' => e = .returned (.bool true) ∧ Below w.heap.size w w' := by
  unfold maxLen at hcap
  obtain ⟨i0, hi, hz0, hz1, hz2⟩ := info_parts infoP
  go_enter Try.func9, Try.ntmps9
  go_wp2_with fail
  refine (HT.out _ _ hr).mono ?_
  rintro e w1 ⟨rfl, hb1⟩
  have hown0 : ((w1.alloc (.cells #[.int .i64 tx, .int .i64 ty] 29 (0, 0))).alloc (.cells #[] 29 (0, 0))).ownsRow (w1.heap.size + 1) 29 2 (.slice (some ⟨w1.heap.size + 1, 0, none⟩) 0 0) 0 [] := by
    have h := World.ownsRow_made (base := w1.heap.size + 1) (e := 29) (size := 2) (w1.alloc (.cells #[.int .i64 tx, .int .i64 ty] 29 (0, 0))) #[] 0 (by simp) (by simp) rfl
    simpa using h
  have B1 : Below w.heap.size w ((w1.alloc (.cells #[.int .i64 tx, .int .i64 ty] 29 (0, 0))).alloc (.cells #[] 29 (0, 0))) := (hb1.alloc hb1.size _).alloc (by have := hb1.size; simp; omega) _
  have A1 : Below (w1.heap.size + 1) (w1.alloc (.cells #[.int .i64 tx, .int .i64 ty] 29 (0, 0))) ((w1.alloc (.cells #[.int .i64 tx, .int .i64 ty] 29 (0, 0))).alloc (.cells #[] 29 (0, 0))) := (Below.refl _ _).alloc (by simp) _
  have hr1 := row_below hr B1
  have nw := news_at hr1 rfl k (L.length - k) (by omega)
  have nl : (cellsL ((L.drop k).take (L.length - k))).length = (L.length - k) * 2 := by rw [cellsL_len]; simp
  have bs := hb1.size
  have NW := Lib.hid nw
  have NL := Lib.hid nl
  have HR1 := Lib.hid hr1
  clear nw nl hr1
  have tok1 : True := trivial
  have tok2 : True := trivial
  go_wp2_with (first | (at_builtin; have _t := tok1; refine wpList_append_own _ rfl (.tmp 33) (.tmp 36) 28 rfl (w1.heap.size + 1) 29 i0 (.agg #[.int .i64 0, .int .i64 0]) 2 16 Try.underlying28 hi hz0 hz1 hz2 rfl (by decide) (.slice (some ⟨w1.heap.size + 1, 0, none⟩) 0 0) 0 [] rfl hown0 ⟨b, off + k * 2, none⟩ (L.length - k) (cap - k) (cellsL ((L.drop k).take (L.length - k))) rfl NL.out NW.out (cellsL_one _) (by unfold maxLen; omega) (by omega) (by simp) ?_; intro v1 W2 own1 gr1 nil1; clear nil1; go_must (have F := first_done (b := b) (off := off) (k := k) (n := 0) (L := L) (tx := tx) (ty := ty) hr bs B1 A1 rfl (by simp) gr1 own1); replace F := Lib.hid F; clear own1 gr1 tok1 B1 A1 NW NL HR1 hown0) | (at_builtin; have _t := tok2; refine wpList_append_own _ rfl (.tmp 38) (.tmp 41) 28 rfl (w1.heap.size + 1) 29 i0 (.agg #[.int .i64 0, .int .i64 0]) 2 16 Try.underlying28 hi hz0 hz1 hz2 rfl (by decide) v1 (L.length - k) (cellsL (L.drop k)) rfl F.out.own ⟨b, off, none⟩ k cap (cellsL (L.take k)) rfl (take_len hk) (F.out.news k hk) (cellsL_one _) (by unfold maxLen; omega) (by omega) F.out.size ?_; intro v2 W3 own2 gr2 nil2; clear tok2 nil2))
  have G := Lib.hid (second_done F.out hk own2 gr2)
  clear own2 gr2 F
  refine (HU.out _ _ _ G.out.own).mono ?_
  rintro e w4 ⟨rfl, hb4⟩
  have I := Lib.hid (third_done G.out hb4)
  clear G hb4
  go_wp2_with fail
  generalize w4.alloc (.cells #[.int .i64 tx, .int .i64 ty] 29 (0, 0)) = W5 at I ⊢
  go_loopw [10, 11] (fun v i wr => ∃ j : Nat, j ≤ L.length ∧ i = .int .i64 j ∧ Hid (wr.ownsRow (w4.heap.size + 1) 29 2 v j (cellsL (swapL (L.take j)))) ∧ Hid (Below w.heap.size w wr) ∧ Hid (Below (w4.heap.size + 1) W5 wr) ∧ Hid (v.ownBlock ≠ some b)) (fun _ i _ => L.length - (intOf i).toNat)
  case atStart => exact ⟨0, Nat.zero_le _, rfl, Lib.hid (World.ownsRow_nil _ _ _ _), Lib.hid I.out.below, Lib.hid (Below.refl _ _), Lib.hid (by simp [Value.ownBlock])⟩
  case round =>
    obtain ⟨j, hj, rfl, hown, hbel, hbel5, hne⟩ := hrel
    by_cases hlt : j < L.length
    · obtain ⟨c0, c1⟩ := row_cells (row_below hr hbel.out) j hlt
      have hj0 : (0 : Int) ≤ (j : Int) := Int.natCast_nonneg _
      have hj1 : (j : Int) < (L.length : Int) := by omega
      have sz := hbel5.out.size
      have sz5 := I.out.size
      have hbw : b < wr.heap.size := World.block_lt_of_cell? wr _ c0
      go_wp2_with fail
      go_region_held3 (fun w' => w'.cell? ⟨b, off + j * 2, none⟩ = some (.int .i64 (Lx L j)) ∧ w'.cell? ⟨b, off + j * 2 + 1, none⟩ = some (.int .i64 (Ly L j)))
        (first | go_keep | (go_split_ands; refine ⟨?_, ?_⟩ <;> (rw [hgrow.cell_far _ (by simp; omega) (Ne.symm hne.out)]; assumption)))
        ((refine step_append_lies _ (by rfl) _ _ _ (by rfl) (w4.heap.size + 1) 29 i0 _ 2 16 Try.underlying28 hi hz0 hz1 hz2 rfl (by omega) _ _ _ (by rfl) ((hown.out.alloc _).drew) ⟨wr.heap.size, 0, none⟩ 1 1 [.int .i64 (Ly L j), .int .i64 (Lx L j)] (by rfl) (by rfl) (World.news_of_block (cs := #[.int .i64 (Ly L j), .int .i64 (Lx L j)]) (t := 29) (fr := (0, 0)) (heap_alloc_new wr _)) (by simp [Value.oneCell']) (by omega) (by unfold maxLen; omega) (by omega) (by simp; omega) (wr.heap.size + 1) (by simp) ?_; intro gg cap' w6 hown1 hgrow hat hlt6))
      have R := round_done hlt hown.out hbel.out hbel5.out hne.out hbw sz sz5 I.out.old hown1 hgrow hat
      go_wp2_with fail
      go_roundw
      case rel => exact ⟨j + 1, by omega, by go_num, Lib.hid R.1, Lib.hid R.2.1, Lib.hid R.2.2.1, Lib.hid R.2.2.2⟩
      case measure => simp [intOf]; omega
    · have e : j = L.length := by omega
      subst e
      have H2 := Lib.hid (own_swap hown.out)
      clear hown
      go_wp2_with fail
      refine (HS.out _ _ _ H2.out).mono ?_
      rintro e w7 ⟨rfl, hb7⟩
      have J := last_done hr h0 I.out hbel.out hbel5.out hb7
      clear hbel hbel5 hb7 H2 I
      go_wp2_with fail
      generalize w7.alloc (.cells #[.int .i64 ty, .int .i64 tx] 29 (0, 0)) = W8 at J ⊢
      have A0 := last_all J
      have z0 : (0 : Int) < (L.length : Int) := by omega
      have HB := Lib.hid J.below
      clear J
      generalize Lx L 0 = x0 at A0
      generalize Ly L 0 = y0 at A0
      have heq1 := fun w => eq_two tx ty tx ty w
      have heq2 := fun w => eq_two ty tx ty tx w
      clear hne hlt hj h0 hk hlc hcap hkc hr HT HU HS hi hz0 hz1 hz2 bs hb1 hl
      generalize Value.bool (decide (1000 < (L.length : Int)) || decide ((k : Int) < 0)) = g1
      generalize Value.bool (decide (1000 < (L.length : Int))) = g2
      generalize Value.bool (decide ((k : Int) < 0)) = g3
      generalize Value.tuple #[Value.agg #[Value.int IntKind.i64 tx, Value.int IntKind.i64 ty], Value.bool tb] = g4
      generalize Value.tuple #[Value.agg #[Value.int IntKind.i64 ty, Value.int IntKind.i64 tx], Value.bool tb] = g5
      subst htb
      have z1 : 0 < L.length := by omega
      have z2 : 1 ≤ L.length := by omega
      generalize L.length = len at z0 z1 z2 hc ⊢
      obtain ⟨a1, a2, a3, a4, a5, a6, a7, a8, a9⟩ := A0
      have HD := Lib.hid a9.drew
      clear a9 HB
      go_still_tail 39, (by kernel_rfl)
      change wpList _ _ _ _ _ W8.drew
      generalize W8.drew = W9 at HD ⊢
      go_wp2_with fail
      refine (live_true _).mono ?_
      rintro e w9 ⟨rfl, hb9⟩
      go_wp2_with fail
      go_ret
      exact ⟨rfl, HD.out.trans (hb9.mono HD.out.size)⟩
end Go.Proofs.Ythjlilepialmoaa.satPairs
