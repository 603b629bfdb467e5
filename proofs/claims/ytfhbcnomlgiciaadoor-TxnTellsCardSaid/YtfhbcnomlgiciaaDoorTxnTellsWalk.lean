/- The walk of hopperlaw04.TxnTells. -/
import Derived.Test.YtfhbcnomlgiciaaDoorTxnOpen
namespace Go.Proofs.YtfhbcnomlgiciaaDoor.txnTells
open Go.RowKit Go.ChangeShapes Go.WideShapes codec txn
set_option linter.unusedVariables false
set_option linter.unusedSimpArgs false

theorem keep3 {w W W' : World} {b1 b2 b3 : Nat} {x y z : Tx} (h : Box W b1 x ∧ Box W b2 y ∧ Box W b3 z ∧ Most W ∧ Below w.heap.size w W) (k : Below W.heap.size W W') :
    Box W' b1 x ∧ Box W' b2 y ∧ Box W' b3 z ∧ Most W' ∧ Below w.heap.size w W' :=
  ⟨h.1.later k, h.2.1.later k, h.2.2.1.later k, h.2.2.2.1.later k, later h.2.2.2.2 k⟩
theorem ret_some (o : Option Tx) : ∃ s n t c g : Int, ∃ d : ByteArray, ∃ is : Bool, retDec o = .tuple #[.agg #[.int .i64 s, .int .i64 n, .int .i64 t, .int .i64 c, .int .i64 g, .string d], .bool is] := by
  rcases o with _ | x
  · exact ⟨_, _, _, _, _, _, _, rfl⟩
  · exact ⟨_, _, _, _, _, _, _, rfl⟩

set_option maxHeartbeats 8000000 in
theorem walk (x : Tx) (s : ByteArray) (w : World) (hM : Most w) (fx : x.fine) (ws : s.size ≤ maxLen) :
    Calls Tryd.prog 3 #[x.val, .string s] w fun e w' => e = .returned (.bool true) ∧ Below w.heap.size w w' := by
  have hd : x.d.size ≤ maxLen := fx.2.2.2.2.2
  have BA := Box.own w x 23
  have hbel := laid (Below.refl w.heap.size w) (.cells #[.int .i64 x.s, .int .i64 x.n, .int .i64 x.t, .int .i64 x.c, .int .i64 x.g, .string x.d] 23 (0, 0))
  have hM := hM.later hbel
  have SM := Lib.hid (fun w => small x w hd)
  have CK := Lib.hid (fun w hM => check x w hM)
  have RK := Lib.hid (fun w => rcheck x w)
  have EN := Lib.hid (fun w hM => encode x w hM hd)
  have RE := Lib.hid (fun w => rencode x w hd)
  have SL := Lib.hid (fun w hM => slots x w hM hd)
  have RS := Lib.hid (fun w => rslots x w hd)
  have IX := Lib.hid (fun w hM => txn.id x w hM hd)
  have RI := Lib.hid (fun w => rid x w hd)
  have DE := Lib.hid (fun w hM => decode_any s w hM ws)
  have RD := Lib.hid (fun w => rdecode_any s w ws)
  obtain ⟨ys, yn, yp, yc, yg, yd, is, hy⟩ := ret_some (dec s.data.toList)
  rw [hy] at DE RD
  generalize x.ok = K at CK RK EN RE
  generalize encV x = E at EN RE
  generalize slotV x = sl at SL RS
  generalize idV x = I at IX RI
  unfold maxLen at ws
  have e1 : decide (x.d.size ≤ 500) = true ∨ decide (x.d.size ≤ 500) = false := by cases decide (x.d.size ≤ 500) <;> simp
  obtain ⟨az, an, ap, ac, ag, ad⟩ := x
  simp only [Tx.val] at SM CK RK EN RE SL RS IX RI ⊢
  simp only [] at BA hM hbel e1
  clear fx hd hy
  rcases e1 with e1 | e1
  · rw [e1] at SM
    by_cases hs : 2000 < s.size
    · have d1 : decide (2000 < (s.size : Int)) = true := by simp; omega
      clear hs e1 CK RK EN RE SL RS IX RI DE RD
      go_enter Tryd.func3, Tryd.ntmps3
      go_wp2_with fail
      generalize w.alloc (.cells #[.int .i64 az, .int .i64 an, .int .i64 ap, .int .i64 ac, .int .i64 ag, .string ad] 23 (0, 0)) = w0 at BA hM hbel ⊢
      refine (SM.out _).mono ?_
      rintro e w1 ⟨rfl, hb1⟩
      have BA := BA.later hb1
      have hM := hM.later hb1
      have hbel := later hbel hb1
      clear hb1
      obtain ⟨p0, p1, p2, p3, p4, p5, _⟩ := _root_.id BA
      simp only [] at p0 p1 p2 p3 p4 p5
      go_wp2_with fail
      clear p0 p1 p2 p3 p4 p5
      refine (live_true _ hM).mono ?_
      rintro e w2 ⟨rfl, hb1⟩
      have BA := BA.later hb1
      have hM := hM.later hb1
      have hbel := later hbel hb1
      clear hb1
      obtain ⟨p0, p1, p2, p3, p4, p5, _⟩ := _root_.id BA
      simp only [] at p0 p1 p2 p3 p4 p5
      go_wp2_with fail
      clear p0 p1 p2 p3 p4 p5
      go_ret
      exact ⟨rfl, hbel⟩
    · have d1 : decide (2000 < (s.size : Int)) = false := by simp; omega
      clear hs e1
      go_enter Tryd.func3, Tryd.ntmps3
      go_wp2_with fail
      generalize w.alloc (.cells #[.int .i64 az, .int .i64 an, .int .i64 ap, .int .i64 ac, .int .i64 ag, .string ad] 23 (0, 0)) = w0 at BA hM hbel ⊢
      refine (SM.out _).mono ?_
      rintro e w1 ⟨rfl, hb1⟩
      have BA := BA.later hb1
      have hM := hM.later hb1
      have hbel := later hbel hb1
      clear hb1
      obtain ⟨p0, p1, p2, p3, p4, p5, _⟩ := _root_.id BA
      simp only [] at p0 p1 p2 p3 p4 p5
      go_wp2_with fail
      clear p0 p1 p2 p3 p4 p5
      refine (EN.out _ hM).mono ?_
      rintro e w2 ⟨rfl, hb1⟩
      have BA := BA.later hb1
      have hM := hM.later hb1
      have hbel := later hbel hb1
      clear hb1
      obtain ⟨p0, p1, p2, p3, p4, p5, _⟩ := _root_.id BA
      simp only [] at p0 p1 p2 p3 p4 p5
      go_wp2_with fail
      clear p0 p1 p2 p3 p4 p5
      refine (RE.out _).mono ?_
      rintro e w3 ⟨rfl, hb1⟩
      have BA := BA.later hb1
      have hM := hM.later hb1
      have hbel := later hbel hb1
      clear hb1
      obtain ⟨p0, p1, p2, p3, p4, p5, _⟩ := _root_.id BA
      simp only [] at p0 p1 p2 p3 p4 p5
      go_wp2_with fail
      clear p0 p1 p2 p3 p4 p5
      refine (DE.out _ hM).mono ?_
      rintro e w4 ⟨rfl, hb1⟩
      have BA := BA.later hb1
      have hM := hM.later hb1
      have hbel := later hbel hb1
      clear hb1
      have B9 := Box.own w4 ⟨ys, yn, yp, yc, yg, yd⟩ 23
      simp only [] at B9
      have hl : Below w4.heap.size w4 (w4.alloc (.cells #[.int .i64 ys, .int .i64 yn, .int .i64 yp, .int .i64 yc, .int .i64 yg, .string yd] 23 (0, 0))) := laid (Below.refl _ _) _
      have BA := BA.later hl
      have hM := hM.later hl
      have hbel := later hbel hl
      clear hl
      go_wp2_with fail
      generalize w4.alloc (.cells #[.int .i64 ys, .int .i64 yn, .int .i64 yp, .int .i64 yc, .int .i64 yg, .string yd] 23 (0, 0)) = w4y at BA B9 hM hbel ⊢
      refine (RD.out _).mono ?_
      rintro e w5 ⟨rfl, hb1⟩
      have BA := BA.later hb1
      have B9 := B9.later hb1
      have hM := hM.later hb1
      have hbel := later hbel hb1
      clear hb1
      have B11 := Box.own w5 ⟨ys, yn, yp, yc, yg, yd⟩ 23
      simp only [] at B11
      have hl : Below w5.heap.size w5 (w5.alloc (.cells #[.int .i64 ys, .int .i64 yn, .int .i64 yp, .int .i64 yc, .int .i64 yg, .string yd] 23 (0, 0))) := laid (Below.refl _ _) _
      have BA := BA.later hl
      have B9 := B9.later hl
      have hM := hM.later hl
      have hbel := later hbel hl
      clear hl
      go_wp2_with fail
      generalize w5.alloc (.cells #[.int .i64 ys, .int .i64 yn, .int .i64 yp, .int .i64 yc, .int .i64 yg, .string yd] 23 (0, 0)) = w5y at BA B9 B11 hM hbel ⊢
      have SS : Box w5y w.heap.size ⟨az, an, ap, ac, ag, ad⟩ ∧ Box w5y w4.heap.size ⟨ys, yn, yp, yc, yg, yd⟩ ∧ Box w5y w5.heap.size ⟨ys, yn, yp, yc, yg, yd⟩ ∧ Most w5y ∧ Below w.heap.size w w5y := ⟨BA, B9, B11, hM, hbel⟩
      clear BA B9 B11 hM hbel
      refine wp_region_noPanic ?_
      refine wp_region_held_drew (S := fun w' => Box w' w.heap.size ⟨az, an, ap, ac, ag, ad⟩ ∧ Box w' w4.heap.size ⟨ys, yn, yp, yc, yg, yd⟩ ∧ Box w' w5.heap.size ⟨ys, yn, yp, yc, yg, yd⟩ ∧ Most w' ∧ Below w.heap.size w w') (by kernel_rfl) (keep3 SS (Below.refl _ _).drew) (fun hHeld => ?_)
      refine wpAnyH_take (i := 0) (v := ?_) rfl (by kernel_rfl) (by kernel_rfl) (by kernel_rfl) (fun _ _ _ h => h) (Or.inl ⟨rfl, ?_⟩) (by assumption) ?_
      rotate_left
      · intro w hSw
        obtain ⟨z0, z1, z2, z3, z4, z5, _⟩ := hSw.1
        simp only [] at z0 z1 z2 z3 z4 z5
        go_simp
        try with_reducible rfl
      try simp only [Act.put, List.setIfInBounds_toArray, List.getElem_toArray, List.getElem_cons_zero, List.getElem_cons_succ, List.set_cons_zero, List.set_cons_succ]
      refine wpAnyH_take (i := 2) (v := ?_) rfl (by kernel_rfl) (by kernel_rfl) (by kernel_rfl) (fun _ _ _ h => h) (Or.inl ⟨rfl, ?_⟩) (by assumption) ?_
      rotate_left
      · intro w hSw
        obtain ⟨z0, z1, z2, z3, z4, z5, _⟩ := hSw.1
        simp only [] at z0 z1 z2 z3 z4 z5
        go_simp
        try with_reducible rfl
      try simp only [Act.put, List.setIfInBounds_toArray, List.getElem_toArray, List.getElem_cons_zero, List.getElem_cons_succ, List.set_cons_zero, List.set_cons_succ]
      refine wpAnyH_ready (rs := [1]) (by kernel_rfl) (by simp) ?_
      refine AllReadyH.cons rfl (fun K hK => ?_) AllReadyH.nil
      go_simp
      refine (CK.out _ (hHeld.2.2.2.1)).mono ?_; rintro e w11 ⟨rfl, hb11⟩
      go_wp2_with fail
      refine hK.out _ _ (keep3 hHeld hb11) (fun hHeld => ?_)
      clear hK K
      try simp only [Act.put, List.setIfInBounds_toArray, List.getElem_toArray, List.getElem_cons_zero, List.getElem_cons_succ, List.set_cons_zero, List.set_cons_succ]
      refine wpAnyH_ready (rs := [3]) (by kernel_rfl) (by simp) ?_
      refine AllReadyH.cons rfl (fun K hK => ?_) AllReadyH.nil
      go_simp
      refine (RK.out _).mono ?_; rintro e w12 ⟨rfl, hb12⟩
      go_wp2_with fail
      refine hK.out _ _ (keep3 hHeld hb12) (fun hHeld => ?_)
      clear hK K
      try simp only [Act.put, List.setIfInBounds_toArray, List.getElem_toArray, List.getElem_cons_zero, List.getElem_cons_succ, List.set_cons_zero, List.set_cons_succ]
      refine wpAnyH_take (i := 4) (v := ?_) rfl (by kernel_rfl) (by kernel_rfl) (by kernel_rfl) (fun _ _ _ h => h) (Or.inl ⟨rfl, ?_⟩) (by assumption) ?_
      rotate_left
      · intro w hSw
        go_simp
        try with_reducible rfl
      try simp only [Act.put, List.setIfInBounds_toArray, List.getElem_toArray, List.getElem_cons_zero, List.getElem_cons_succ, List.set_cons_zero, List.set_cons_succ]
      refine wpAnyH_take (i := 5) (v := ?_) rfl (by kernel_rfl) (by kernel_rfl) (by kernel_rfl) (fun _ _ _ h => h) (Or.inl ⟨rfl, ?_⟩) (by assumption) ?_
      rotate_left
      · intro w hSw
        go_simp
        try with_reducible rfl
      try simp only [Act.put, List.setIfInBounds_toArray, List.getElem_toArray, List.getElem_cons_zero, List.getElem_cons_succ, List.set_cons_zero, List.set_cons_succ]
      refine wpAnyH_take (i := 6) (v := ?_) rfl (by kernel_rfl) (by kernel_rfl) (by kernel_rfl) (fun _ _ _ h => h) (Or.inl ⟨rfl, ?_⟩) (by assumption) ?_
      rotate_left
      · intro w hSw
        go_simp
        try with_reducible rfl
      try simp only [Act.put, List.setIfInBounds_toArray, List.getElem_toArray, List.getElem_cons_zero, List.getElem_cons_succ, List.set_cons_zero, List.set_cons_succ]
      refine wpAnyH_take (i := 7) (v := ?_) rfl (by kernel_rfl) (by kernel_rfl) (by kernel_rfl) (fun _ _ _ h => h) (Or.inl ⟨rfl, ?_⟩) (by assumption) ?_
      rotate_left
      · intro w hSw
        go_simp
        try with_reducible rfl
      try simp only [Act.put, List.setIfInBounds_toArray, List.getElem_toArray, List.getElem_cons_zero, List.getElem_cons_succ, List.set_cons_zero, List.set_cons_succ]
      refine wpAnyH_take (i := 8) (v := ?_) rfl (by kernel_rfl) (by kernel_rfl) (by kernel_rfl) (fun _ _ _ h => h) (Or.inl ⟨rfl, ?_⟩) (by assumption) ?_
      rotate_left
      · intro w hSw
        go_simp
        try with_reducible rfl
      try simp only [Act.put, List.setIfInBounds_toArray, List.getElem_toArray, List.getElem_cons_zero, List.getElem_cons_succ, List.set_cons_zero, List.set_cons_succ]
      refine wpAnyH_take (i := 9) (v := ?_) rfl (by kernel_rfl) (by kernel_rfl) (by kernel_rfl) (fun _ _ _ h => h) (Or.inl ⟨rfl, ?_⟩) (by assumption) ?_
      rotate_left
      · intro w hSw
        go_simp
        try with_reducible rfl
      try simp only [Act.put, List.setIfInBounds_toArray, List.getElem_toArray, List.getElem_cons_zero, List.getElem_cons_succ, List.set_cons_zero, List.set_cons_succ]
      refine wpAnyH_take (i := 10) (v := ?_) rfl (by kernel_rfl) (by kernel_rfl) (by kernel_rfl) (fun _ _ _ h => h) (Or.inl ⟨rfl, ?_⟩) (by assumption) ?_
      rotate_left
      · intro w hSw
        go_simp
        try with_reducible rfl
      try simp only [Act.put, List.setIfInBounds_toArray, List.getElem_toArray, List.getElem_cons_zero, List.getElem_cons_succ, List.set_cons_zero, List.set_cons_succ]
      refine wpAnyH_take (i := 11) (v := ?_) rfl (by kernel_rfl) (by kernel_rfl) (by kernel_rfl) (fun _ _ _ h => h) (Or.inl ⟨rfl, ?_⟩) (by assumption) ?_
      rotate_left
      · intro w hSw
        go_simp
        try with_reducible rfl
      try simp only [Act.put, List.setIfInBounds_toArray, List.getElem_toArray, List.getElem_cons_zero, List.getElem_cons_succ, List.set_cons_zero, List.set_cons_succ]
      refine wpAnyH_take (i := 12) (v := ?_) rfl (by kernel_rfl) (by kernel_rfl) (by kernel_rfl) (fun _ _ _ h => h) (Or.inl ⟨rfl, ?_⟩) (by assumption) ?_
      rotate_left
      · intro w hSw
        go_simp
        try with_reducible rfl
      try simp only [Act.put, List.setIfInBounds_toArray, List.getElem_toArray, List.getElem_cons_zero, List.getElem_cons_succ, List.set_cons_zero, List.set_cons_succ]
      refine wpAnyH_take (i := 13) (v := ?_) rfl (by kernel_rfl) (by kernel_rfl) (by kernel_rfl) (fun _ _ _ h => h) (Or.inl ⟨rfl, ?_⟩) (by assumption) ?_
      rotate_left
      · intro w hSw
        go_simp
        try with_reducible rfl
      try simp only [Act.put, List.setIfInBounds_toArray, List.getElem_toArray, List.getElem_cons_zero, List.getElem_cons_succ, List.set_cons_zero, List.set_cons_succ]
      refine wpAnyH_take (i := 14) (v := ?_) rfl (by kernel_rfl) (by kernel_rfl) (by kernel_rfl) (fun _ _ _ h => h) (Or.inl ⟨rfl, ?_⟩) (by assumption) ?_
      rotate_left
      · intro w hSw
        go_simp
        try with_reducible rfl
      try simp only [Act.put, List.setIfInBounds_toArray, List.getElem_toArray, List.getElem_cons_zero, List.getElem_cons_succ, List.set_cons_zero, List.set_cons_succ]
      refine wpAnyH_take (i := 15) (v := ?_) rfl (by kernel_rfl) (by kernel_rfl) (by kernel_rfl) (fun _ _ _ h => h) (Or.inl ⟨rfl, ?_⟩) (by assumption) ?_
      rotate_left
      · intro w hSw
        go_simp
        try with_reducible rfl
      try simp only [Act.put, List.setIfInBounds_toArray, List.getElem_toArray, List.getElem_cons_zero, List.getElem_cons_succ, List.set_cons_zero, List.set_cons_succ]
      refine wpAnyH_take (i := 16) (v := ?_) rfl (by kernel_rfl) (by kernel_rfl) (by kernel_rfl) (fun _ _ _ h => h) (Or.inl ⟨rfl, ?_⟩) (by assumption) ?_
      rotate_left
      · intro w hSw
        obtain ⟨z0, z1, z2, z3, z4, z5, _⟩ := hSw.2.1
        simp only [] at z0 z1 z2 z3 z4 z5
        go_simp
        try with_reducible rfl
      try simp only [Act.put, List.setIfInBounds_toArray, List.getElem_toArray, List.getElem_cons_zero, List.getElem_cons_succ, List.set_cons_zero, List.set_cons_succ]
      refine wpAnyH_take (i := 17) (v := ?_) rfl (by kernel_rfl) (by kernel_rfl) (by kernel_rfl) (fun _ _ _ h => h) (Or.inl ⟨rfl, ?_⟩) (by assumption) ?_
      rotate_left
      · intro w hSw
        obtain ⟨z0, z1, z2, z3, z4, z5, _⟩ := hSw.2.2.1
        simp only [] at z0 z1 z2 z3 z4 z5
        go_simp
        try with_reducible rfl
      try simp only [Act.put, List.setIfInBounds_toArray, List.getElem_toArray, List.getElem_cons_zero, List.getElem_cons_succ, List.set_cons_zero, List.set_cons_succ]
      refine wpAnyH_take (i := 18) (v := ?_) rfl (by kernel_rfl) (by kernel_rfl) (by kernel_rfl) (fun _ _ _ h => h) (Or.inl ⟨rfl, ?_⟩) (by assumption) ?_
      rotate_left
      · intro w hSw
        go_simp
        try with_reducible rfl
      try simp only [Act.put, List.setIfInBounds_toArray, List.getElem_toArray, List.getElem_cons_zero, List.getElem_cons_succ, List.set_cons_zero, List.set_cons_succ]
      refine wpAnyH_take (i := 19) (v := ?_) rfl (by kernel_rfl) (by kernel_rfl) (by kernel_rfl) (fun _ _ _ h => h) (Or.inl ⟨rfl, ?_⟩) (by assumption) ?_
      rotate_left
      · intro w hSw
        go_simp
        try with_reducible rfl
      try simp only [Act.put, List.setIfInBounds_toArray, List.getElem_toArray, List.getElem_cons_zero, List.getElem_cons_succ, List.set_cons_zero, List.set_cons_succ]
      refine wpAnyH_take (i := 20) (v := ?_) rfl (by kernel_rfl) (by kernel_rfl) (by kernel_rfl) (fun _ _ _ h => h) (Or.inl ⟨rfl, ?_⟩) (by assumption) ?_
      rotate_left
      · intro w hSw
        go_simp
        try with_reducible rfl
      try simp only [Act.put, List.setIfInBounds_toArray, List.getElem_toArray, List.getElem_cons_zero, List.getElem_cons_succ, List.set_cons_zero, List.set_cons_succ]
      refine wpAnyH_take (i := 21) (v := ?_) rfl (by kernel_rfl) (by kernel_rfl) (by kernel_rfl) (fun _ _ _ h => h) (Or.inl ⟨rfl, ?_⟩) (by assumption) ?_
      rotate_left
      · intro w hSw
        go_simp
        try with_reducible rfl
      try simp only [Act.put, List.setIfInBounds_toArray, List.getElem_toArray, List.getElem_cons_zero, List.getElem_cons_succ, List.set_cons_zero, List.set_cons_succ]
      refine wpAnyH_take (i := 22) (v := ?_) rfl (by kernel_rfl) (by kernel_rfl) (by kernel_rfl) (fun _ _ _ h => h) (Or.inl ⟨rfl, ?_⟩) (by assumption) ?_
      rotate_left
      · intro w hSw
        go_simp
        try with_reducible rfl
      try simp only [Act.put, List.setIfInBounds_toArray, List.getElem_toArray, List.getElem_cons_zero, List.getElem_cons_succ, List.set_cons_zero, List.set_cons_succ]
      refine wpAnyH_take (i := 23) (v := ?_) rfl (by kernel_rfl) (by kernel_rfl) (by kernel_rfl) (fun _ _ _ h => h) (Or.inl ⟨rfl, ?_⟩) (by assumption) ?_
      rotate_left
      · intro w hSw
        go_simp
        try with_reducible rfl
      try simp only [Act.put, List.setIfInBounds_toArray, List.getElem_toArray, List.getElem_cons_zero, List.getElem_cons_succ, List.set_cons_zero, List.set_cons_succ]
      refine wpAnyH_take (i := 24) (v := ?_) rfl (by kernel_rfl) (by kernel_rfl) (by kernel_rfl) (fun _ _ _ h => h) (Or.inl ⟨rfl, ?_⟩) (by assumption) ?_
      rotate_left
      · intro w hSw
        go_simp
        try with_reducible rfl
      try simp only [Act.put, List.setIfInBounds_toArray, List.getElem_toArray, List.getElem_cons_zero, List.getElem_cons_succ, List.set_cons_zero, List.set_cons_succ]
      refine wpAnyH_take (i := 25) (v := ?_) rfl (by kernel_rfl) (by kernel_rfl) (by kernel_rfl) (fun _ _ _ h => h) (Or.inl ⟨rfl, ?_⟩) (by assumption) ?_
      rotate_left
      · intro w hSw
        go_simp
        try with_reducible rfl
      try simp only [Act.put, List.setIfInBounds_toArray, List.getElem_toArray, List.getElem_cons_zero, List.getElem_cons_succ, List.set_cons_zero, List.set_cons_succ]
      refine wpAnyH_take (i := 26) (v := ?_) rfl (by kernel_rfl) (by kernel_rfl) (by kernel_rfl) (fun _ _ _ h => h) (Or.inl ⟨rfl, ?_⟩) (by assumption) ?_
      rotate_left
      · intro w hSw
        obtain ⟨z0, z1, z2, z3, z4, z5, _⟩ := hSw.1
        simp only [] at z0 z1 z2 z3 z4 z5
        go_simp
        try with_reducible rfl
      try simp only [Act.put, List.setIfInBounds_toArray, List.getElem_toArray, List.getElem_cons_zero, List.getElem_cons_succ, List.set_cons_zero, List.set_cons_succ]
      refine wpAnyH_take (i := 28) (v := ?_) rfl (by kernel_rfl) (by kernel_rfl) (by kernel_rfl) (fun _ _ _ h => h) (Or.inl ⟨rfl, ?_⟩) (by assumption) ?_
      rotate_left
      · intro w hSw
        obtain ⟨z0, z1, z2, z3, z4, z5, _⟩ := hSw.1
        simp only [] at z0 z1 z2 z3 z4 z5
        go_simp
        try with_reducible rfl
      try simp only [Act.put, List.setIfInBounds_toArray, List.getElem_toArray, List.getElem_cons_zero, List.getElem_cons_succ, List.set_cons_zero, List.set_cons_succ]
      refine wpAnyH_ready (rs := [27]) (by kernel_rfl) (by simp) ?_
      refine AllReadyH.cons rfl (fun K hK => ?_) AllReadyH.nil
      go_simp
      refine (SL.out _ (hHeld.2.2.2.1)).mono ?_; rintro e w13 ⟨rfl, hb13⟩
      go_wp2_with fail
      refine hK.out _ _ (keep3 hHeld hb13) (fun hHeld => ?_)
      clear hK K
      try simp only [Act.put, List.setIfInBounds_toArray, List.getElem_toArray, List.getElem_cons_zero, List.getElem_cons_succ, List.set_cons_zero, List.set_cons_succ]
      refine wpAnyH_ready (rs := [29]) (by kernel_rfl) (by simp) ?_
      refine AllReadyH.cons rfl (fun K hK => ?_) AllReadyH.nil
      go_simp
      refine (RS.out _).mono ?_; rintro e w14 ⟨rfl, hb14⟩
      go_wp2_with fail
      refine hK.out _ _ (keep3 hHeld hb14) (fun hHeld => ?_)
      clear hK K
      try simp only [Act.put, List.setIfInBounds_toArray, List.getElem_toArray, List.getElem_cons_zero, List.getElem_cons_succ, List.set_cons_zero, List.set_cons_succ]
      refine wpAnyH_take (i := 30) (v := ?_) rfl (by kernel_rfl) (by kernel_rfl) (by kernel_rfl) (fun _ _ _ h => h) (Or.inl ⟨rfl, ?_⟩) (by assumption) ?_
      rotate_left
      · intro w hSw
        go_simp
        try with_reducible rfl
      try simp only [Act.put, List.setIfInBounds_toArray, List.getElem_toArray, List.getElem_cons_zero, List.getElem_cons_succ, List.set_cons_zero, List.set_cons_succ]
      refine wpAnyH_take (i := 31) (v := ?_) rfl (by kernel_rfl) (by kernel_rfl) (by kernel_rfl) (fun _ _ _ h => h) (Or.inl ⟨rfl, ?_⟩) (by assumption) ?_
      rotate_left
      · intro w hSw
        go_simp
        try with_reducible rfl
      try simp only [Act.put, List.setIfInBounds_toArray, List.getElem_toArray, List.getElem_cons_zero, List.getElem_cons_succ, List.set_cons_zero, List.set_cons_succ]
      refine wpAnyH_take (i := 32) (v := ?_) rfl (by kernel_rfl) (by kernel_rfl) (by kernel_rfl) (fun _ _ _ h => h) (Or.inl ⟨rfl, ?_⟩) (by assumption) ?_
      rotate_left
      · intro w hSw
        go_simp
        try with_reducible rfl
      try simp only [Act.put, List.setIfInBounds_toArray, List.getElem_toArray, List.getElem_cons_zero, List.getElem_cons_succ, List.set_cons_zero, List.set_cons_succ]
      refine wpAnyH_take (i := 33) (v := ?_) rfl (by kernel_rfl) (by kernel_rfl) (by kernel_rfl) (fun _ _ _ h => h) (Or.inl ⟨rfl, ?_⟩) (by assumption) ?_
      rotate_left
      · intro w hSw
        obtain ⟨z0, z1, z2, z3, z4, z5, _⟩ := hSw.1
        simp only [] at z0 z1 z2 z3 z4 z5
        go_simp
        try with_reducible rfl
      try simp only [Act.put, List.setIfInBounds_toArray, List.getElem_toArray, List.getElem_cons_zero, List.getElem_cons_succ, List.set_cons_zero, List.set_cons_succ]
      refine wpAnyH_take (i := 35) (v := ?_) rfl (by kernel_rfl) (by kernel_rfl) (by kernel_rfl) (fun _ _ _ h => h) (Or.inl ⟨rfl, ?_⟩) (by assumption) ?_
      rotate_left
      · intro w hSw
        obtain ⟨z0, z1, z2, z3, z4, z5, _⟩ := hSw.1
        simp only [] at z0 z1 z2 z3 z4 z5
        go_simp
        try with_reducible rfl
      try simp only [Act.put, List.setIfInBounds_toArray, List.getElem_toArray, List.getElem_cons_zero, List.getElem_cons_succ, List.set_cons_zero, List.set_cons_succ]
      refine wpAnyH_ready (rs := [34]) (by kernel_rfl) (by simp) ?_
      refine AllReadyH.cons rfl (fun K hK => ?_) AllReadyH.nil
      go_simp
      refine (IX.out _ (hHeld.2.2.2.1)).mono ?_; rintro e w15 ⟨rfl, hb15⟩
      go_wp2_with fail
      refine hK.out _ _ (keep3 hHeld hb15) (fun hHeld => ?_)
      clear hK K
      try simp only [Act.put, List.setIfInBounds_toArray, List.getElem_toArray, List.getElem_cons_zero, List.getElem_cons_succ, List.set_cons_zero, List.set_cons_succ]
      refine wpAnyH_ready (rs := [36]) (by kernel_rfl) (by simp) ?_
      refine AllReadyH.cons rfl (fun K hK => ?_) AllReadyH.nil
      go_simp
      refine (RI.out _).mono ?_; rintro e w16 ⟨rfl, hb16⟩
      go_wp2_with fail
      refine hK.out _ _ (keep3 hHeld hb16) (fun hHeld => ?_)
      clear hK K
      try simp only [Act.put, List.setIfInBounds_toArray, List.getElem_toArray, List.getElem_cons_zero, List.getElem_cons_succ, List.set_cons_zero, List.set_cons_succ]
      refine wpAnyH_take (i := 37) (v := ?_) rfl (by kernel_rfl) (by kernel_rfl) (by kernel_rfl) (fun _ _ _ h => h) (Or.inl ⟨rfl, ?_⟩) (by assumption) ?_
      rotate_left
      · intro w hSw
        go_simp
        try with_reducible rfl
      try simp only [Act.put, List.setIfInBounds_toArray, List.getElem_toArray, List.getElem_cons_zero, List.getElem_cons_succ, List.set_cons_zero, List.set_cons_succ]
      refine wpAnyH_take (i := 38) (v := ?_) rfl (by kernel_rfl) (by kernel_rfl) (by kernel_rfl) (fun _ _ _ h => h) (Or.inl ⟨rfl, ?_⟩) (by assumption) ?_
      rotate_left
      · intro w hSw
        go_simp
        try with_reducible rfl
      try simp only [Act.put, List.setIfInBounds_toArray, List.getElem_toArray, List.getElem_cons_zero, List.getElem_cons_succ, List.set_cons_zero, List.set_cons_succ]
      refine wpAnyH_take (i := 39) (v := ?_) rfl (by kernel_rfl) (by kernel_rfl) (by kernel_rfl) (fun _ _ _ h => h) (Or.inl ⟨rfl, ?_⟩) (by assumption) ?_
      rotate_left
      · intro w hSw
        go_simp
        try with_reducible rfl
      try simp only [Act.put, List.setIfInBounds_toArray, List.getElem_toArray, List.getElem_cons_zero, List.getElem_cons_succ, List.set_cons_zero, List.set_cons_succ]
      refine wpAnyH_ready (rs := [40]) (by kernel_rfl) (by simp) ?_
      refine AllReadyH.cons rfl (fun K hK => ?_) AllReadyH.nil
      go_simp
      refine (live_true _ (hHeld.2.2.2.1)).mono ?_; rintro e w17 ⟨rfl, hb17⟩
      go_wp2_with fail
      refine hK.out _ _ (keep3 hHeld hb17) (fun hHeld => ?_)
      clear hK K
      try simp only [Act.put, List.setIfInBounds_toArray, List.getElem_toArray, List.getElem_cons_zero, List.getElem_cons_succ, List.set_cons_zero, List.set_cons_succ]
      refine wpAnyH_take (i := 41) (v := ?_) rfl (by kernel_rfl) (by kernel_rfl) (by kernel_rfl) (fun _ _ _ h => h) (Or.inl ⟨rfl, ?_⟩) (by assumption) ?_
      rotate_left
      · intro w hSw
        go_simp
        try with_reducible rfl
      try simp only [Act.put, List.setIfInBounds_toArray, List.getElem_toArray, List.getElem_cons_zero, List.getElem_cons_succ, List.set_cons_zero, List.set_cons_succ]
      refine wpAnyH_take (i := 42) (v := ?_) rfl (by kernel_rfl) (by kernel_rfl) (by kernel_rfl) (fun _ _ _ h => h) (Or.inl ⟨rfl, ?_⟩) (by assumption) ?_
      rotate_left
      · intro w hSw
        go_simp
        try with_reducible rfl
      try simp only [Act.put, List.setIfInBounds_toArray, List.getElem_toArray, List.getElem_cons_zero, List.getElem_cons_succ, List.set_cons_zero, List.set_cons_succ]
      refine wpAnyH_done (by kernel_rfl) (NoPanic.normal ?_) _
      have hbel := hHeld.2.2.2.2
      clear hHeld
      go_wp2_with fail
      go_ret
      exact ⟨rfl, hbel⟩
  · rw [e1] at SM
    clear e1 CK RK EN RE SL RS IX RI DE RD
    go_enter Tryd.func3, Tryd.ntmps3
    go_wp2_with fail
    generalize w.alloc (.cells #[.int .i64 az, .int .i64 an, .int .i64 ap, .int .i64 ac, .int .i64 ag, .string ad] 23 (0, 0)) = w0 at BA hM hbel ⊢
    refine (SM.out _).mono ?_
    rintro e w1 ⟨rfl, hb1⟩
    have BA := BA.later hb1
    have hM := hM.later hb1
    have hbel := later hbel hb1
    clear hb1
    obtain ⟨p0, p1, p2, p3, p4, p5, _⟩ := _root_.id BA
    simp only [] at p0 p1 p2 p3 p4 p5
    go_wp2_with fail
    clear p0 p1 p2 p3 p4 p5
    refine (live_true _ hM).mono ?_
    rintro e w2 ⟨rfl, hb1⟩
    have BA := BA.later hb1
    have hM := hM.later hb1
    have hbel := later hbel hb1
    clear hb1
    obtain ⟨p0, p1, p2, p3, p4, p5, _⟩ := _root_.id BA
    simp only [] at p0 p1 p2 p3 p4 p5
    go_wp2_with fail
    clear p0 p1 p2 p3 p4 p5
    go_ret
    exact ⟨rfl, hbel⟩
end Go.Proofs.YtfhbcnomlgiciaaDoor.txnTells
