/- The document's own Decode (hopperref04): its last ways, by contract. -/
import Derived.Test.YtfhbcnomlgiciaaDoorTxnRDec
namespace Go.Proofs.YtfhbcnomlgiciaaDoor.txn
open Go.RowKit codec
set_option linter.unusedVariables false
set_option linter.unusedSimpArgs false

set_option maxHeartbeats 2000000 in
theorem rdecode_bad (s : ByteArray) (a : UInt8) (r : List UInt8) (k0 : Nat) (r0 : List UInt8) (k1 : Nat) (r1 : List UInt8) (k2 : Nat) (r2 : List UInt8) (k3 : Nat) (r3 : List UInt8) (k4 : Nat) (r4 : List UInt8) (d : List UInt8) (ot : Option (List UInt8 × List UInt8)) (w : World) (hs : s.size ≤ maxLen) (he : s.data.toList = a :: r) (h0 : takeNum r 1099511627776 = some (k0, r0)) (h1 : takeNum r0 1099511627776 = some (k1, r1)) (h2 : takeNum r1 1099511627776 = some (k2, r2)) (h3 : takeNum r2 1099511627776 = some (k3, r3)) (h4 : takeNum r3 1099511627776 = some (k4, r4)) (ht : takeText r4 256 = ot) (hd : d = (ot.map Prod.fst).getD []) (hok : (Tx.mk k0 k1 k2 k3 k4 ⟨d.toArray⟩).ok = false) :
    Calls Tryd.prog 15 #[.string s] w fun e w' => e = .returned (retDec none) ∧ Below w.heap.size w w' := by
  have hz : s.size = r.length + 1 := by
    have : s.data.toList.length = s.size := by simp
    rw [he] at this
    simp at this
    omega
  have hsb : (s.toList == ([] : List UInt8)) = false := by
    rw [ByteArray.toList_eq, he]
    rfl
  have S1 := str_from s 1 1 rfl (by omega)
  rw [he, List.drop_succ_cons, List.drop_zero] at S1
  have hl : r.length ≤ maxLen := by omega
  have N0 := Lib.hid (fun w => rtakenum_any ⟨r.toArray⟩ 1099511627776 w hl)
  simp only [] at N0
  rw [h0] at N0
  simp only [retNum] at N0
  have hl0 : r0.length ≤ maxLen := by
    have e := (takeNum_some _ _ _ _ h0).1
    have e2 := congrArg List.length e
    rw [List.length_append] at e2
    omega
  have N1 := Lib.hid (fun w => rtakenum_any ⟨r0.toArray⟩ 1099511627776 w hl0)
  simp only [] at N1
  rw [h1] at N1
  simp only [retNum] at N1
  have hl1 : r1.length ≤ maxLen := by
    have e := (takeNum_some _ _ _ _ h1).1
    have e2 := congrArg List.length e
    rw [List.length_append] at e2
    omega
  have N2 := Lib.hid (fun w => rtakenum_any ⟨r1.toArray⟩ 1099511627776 w hl1)
  simp only [] at N2
  rw [h2] at N2
  simp only [retNum] at N2
  have hl2 : r2.length ≤ maxLen := by
    have e := (takeNum_some _ _ _ _ h2).1
    have e2 := congrArg List.length e
    rw [List.length_append] at e2
    omega
  have N3 := Lib.hid (fun w => rtakenum_any ⟨r2.toArray⟩ 1099511627776 w hl2)
  simp only [] at N3
  rw [h3] at N3
  simp only [retNum] at N3
  have hl3 : r3.length ≤ maxLen := by
    have e := (takeNum_some _ _ _ _ h3).1
    have e2 := congrArg List.length e
    rw [List.length_append] at e2
    omega
  have N4 := Lib.hid (fun w => rtakenum_any ⟨r3.toArray⟩ 1099511627776 w hl3)
  simp only [] at N4
  rw [h4] at N4
  simp only [retNum] at N4
  have hl4 : r4.length ≤ maxLen := by
    have e := (takeNum_some _ _ _ _ h4).1
    have e2 := congrArg List.length e
    rw [List.length_append] at e2
    omega
  have TT : Hid (∀ w, ∃ q : List UInt8, ∃ is : Bool, Calls Tryd.prog 33 #[.string ⟨r4.toArray⟩, .int .i64 256] w fun e w' => e = .returned (.tuple #[.string ⟨d.toArray⟩, .string ⟨q.toArray⟩, .bool is]) ∧ Below w.heap.size w w') := by
    refine Lib.hid (fun w => ?_)
    have := rtaketext_any ⟨r4.toArray⟩ 256 w hl4
    simp only [] at this
    rw [ht] at this
    subst hd
    rcases ot with _ | ⟨d, q⟩
    · exact ⟨[], false, this⟩
    · exact ⟨q, true, this⟩
  have hdl : d.length ≤ maxLen := by
    subst hd
    rcases ot with _ | ⟨d, q⟩
    · show 0 ≤ maxLen; unfold maxLen; omega
    · have := (takeText_some _ _ _ _ ht).2.1
      show d.length ≤ maxLen
      unfold maxLen
      omega
  have K := Lib.hid (fun w => rencode (Tx.mk k0 k1 k2 k3 k4 ⟨d.toArray⟩) w hdl)
  rw [hok] at K
  simp only [Tx.val] at K
  have ev : encV (Tx.mk k0 k1 k2 k3 k4 ⟨d.toArray⟩) = [] := by unfold encV; rw [hok]; rfl
  rw [ev] at K
  obtain ⟨w0, hw0, hbel, R, T⟩ := rblocks w
  clear he hz h0 h1 h2 h3 h4 ht hok ev hdl hd
  unfold maxLen at hs
  go_enter Tryd.func15, Tryd.ntmps15
  go_wp2_with fail
  rw [← hw0]
  clear hw0
  refine wp_loop_rounds 6 ?_
  rw [rounds_succ]
  go_wp2_with fail
  refine (N0.out _).mono ?_
  rintro e w1 ⟨rfl, hb1⟩
  have R := R.later hb1
  have T := T.later hb1
  have hbel := later hbel hb1
  clear hb1
  have fz := T.thaw 0
  have z := T.cell 0 (.int .i64 0) rfl
  go_wp2_with fail
  have R := R.aside (w.heap.size + 1) 0 (by omega) (.int .i64 k0)
  have T := T.put 0 (.int .i64 k0)
  have hbel := hbel.setCell (p := ⟨w.heap.size + 1, 0, none⟩) (by show w.heap.size ≤ w.heap.size + 1; omega) (.int .i64 k0)
  clear fz z
  generalize w1.setCell ⟨w.heap.size + 1, 0, none⟩ (.int .i64 k0) = w2 at R T hbel ⊢
  rw [rounds_succ]
  go_wp2_with fail
  refine (N1.out _).mono ?_
  rintro e w1 ⟨rfl, hb1⟩
  have R := R.later hb1
  have T := T.later hb1
  have hbel := later hbel hb1
  clear hb1
  have fz := T.thaw 1
  have z := T.cell 1 (.int .i64 0) rfl
  go_wp2_with fail
  have R := R.aside (w.heap.size + 1) 1 (by omega) (.int .i64 k1)
  have T := T.put 1 (.int .i64 k1)
  have hbel := hbel.setCell (p := ⟨w.heap.size + 1, 1, none⟩) (by show w.heap.size ≤ w.heap.size + 1; omega) (.int .i64 k1)
  clear fz z
  generalize w1.setCell ⟨w.heap.size + 1, 1, none⟩ (.int .i64 k1) = w2 at R T hbel ⊢
  rw [rounds_succ]
  go_wp2_with fail
  refine (N2.out _).mono ?_
  rintro e w1 ⟨rfl, hb1⟩
  have R := R.later hb1
  have T := T.later hb1
  have hbel := later hbel hb1
  clear hb1
  have fz := T.thaw 2
  have z := T.cell 2 (.int .i64 0) rfl
  go_wp2_with fail
  have R := R.aside (w.heap.size + 1) 2 (by omega) (.int .i64 k2)
  have T := T.put 2 (.int .i64 k2)
  have hbel := hbel.setCell (p := ⟨w.heap.size + 1, 2, none⟩) (by show w.heap.size ≤ w.heap.size + 1; omega) (.int .i64 k2)
  clear fz z
  generalize w1.setCell ⟨w.heap.size + 1, 2, none⟩ (.int .i64 k2) = w2 at R T hbel ⊢
  rw [rounds_succ]
  go_wp2_with fail
  refine (N3.out _).mono ?_
  rintro e w1 ⟨rfl, hb1⟩
  have R := R.later hb1
  have T := T.later hb1
  have hbel := later hbel hb1
  clear hb1
  have fz := T.thaw 3
  have z := T.cell 3 (.int .i64 0) rfl
  go_wp2_with fail
  have R := R.aside (w.heap.size + 1) 3 (by omega) (.int .i64 k3)
  have T := T.put 3 (.int .i64 k3)
  have hbel := hbel.setCell (p := ⟨w.heap.size + 1, 3, none⟩) (by show w.heap.size ≤ w.heap.size + 1; omega) (.int .i64 k3)
  clear fz z
  generalize w1.setCell ⟨w.heap.size + 1, 3, none⟩ (.int .i64 k3) = w2 at R T hbel ⊢
  rw [rounds_succ]
  go_wp2_with fail
  refine (N4.out _).mono ?_
  rintro e w1 ⟨rfl, hb1⟩
  have R := R.later hb1
  have T := T.later hb1
  have hbel := later hbel hb1
  clear hb1
  have fz := T.thaw 4
  have z := T.cell 4 (.int .i64 0) rfl
  go_wp2_with fail
  have R := R.aside (w.heap.size + 1) 4 (by omega) (.int .i64 k4)
  have T := T.put 4 (.int .i64 k4)
  have hbel := hbel.setCell (p := ⟨w.heap.size + 1, 4, none⟩) (by show w.heap.size ≤ w.heap.size + 1; omega) (.int .i64 k4)
  clear fz z
  generalize w1.setCell ⟨w.heap.size + 1, 4, none⟩ (.int .i64 k4) = w2 at R T hbel ⊢
  rw [rounds_succ]
  go_wp2_with fail
  obtain ⟨q, is, CT⟩ := TT.out w2
  refine CT.mono ?_
  rintro e w4 ⟨rfl, hb4⟩
  have R := R.later hb4
  have T := T.later hb4
  have hbel := later hbel hb4
  clear hb4
  have t0 := T.cell 0 (.int .i64 k0) rfl
  have t1 := T.cell 1 (.int .i64 k1) rfl
  have t2 := T.cell 2 (.int .i64 k2) rfl
  have t3 := T.cell 3 (.int .i64 k3) rfl
  have t4 := T.cell 4 (.int .i64 k4) rfl
  have B0 := Box.own w4 (Tx.mk k0 k1 k2 k3 k4 ⟨d.toArray⟩) 23
  simp only [] at B0
  have hl' : Below w4.heap.size w4 (w4.alloc (.cells #[.int .i64 (k0 : Int), .int .i64 (k1 : Int), .int .i64 (k2 : Int), .int .i64 (k3 : Int), .int .i64 (k4 : Int), .string ⟨d.toArray⟩] 23 (0, 0))) := laid (Below.refl _ _) _
  have R := R.later hl'
  have hbel := later hbel hl'
  clear hl'
  go_wp2_with fail
  generalize w4.alloc (.cells #[.int .i64 (k0 : Int), .int .i64 (k1 : Int), .int .i64 (k2 : Int), .int .i64 (k3 : Int), .int .i64 (k4 : Int), .string ⟨d.toArray⟩] 23 (0, 0)) = w5 at B0 R hbel ⊢
  refine (K.out _).mono ?_
  rintro e w6 ⟨rfl, hb6⟩
  have R := R.later hb6
  have hbel := later hbel hb6
  have B0 := B0.later hb6
  clear hb6 t0 t1 t2 t3 t4
  obtain ⟨c0, c1, c2, c3, c4, c5, _⟩ := B0
  simp only [] at c0 c1 c2 c3 c4 c5
  have fz := R.thaw
  have z0 := R.cell 0 (.int .i64 0) rfl
  have z1 := R.cell 1 (.int .i64 0) rfl
  have z2 := R.cell 2 (.int .i64 0) rfl
  have z3 := R.cell 3 (.int .i64 0) rfl
  have z4 := R.cell 4 (.int .i64 0) rfl
  have z5 := R.cell 5 (.string ⟨#[]⟩) rfl
  go_wp2_with fail
  have R := six_blk Tx.zero R
  have hbel := six_below w.heap.size Tx.zero hbel (Nat.le_refl _)
  clear fz z0 z1 z2 z3 z4 z5
  have z0 := R.cell 0 _ rfl
  have z1 := R.cell 1 _ rfl
  have z2 := R.cell 2 _ rfl
  have z3 := R.cell 3 _ rfl
  have z4 := R.cell 4 _ rfl
  have z5 := R.cell 5 _ rfl
  simp only [six, Tx.zero] at hbel z0 z1 z2 z3 z4 z5
  refine bodyPost_ret (v := retDec none) (by simp [results, Tryd.results15, go_sem, retDec, Tx.val, Tx.zero, z0, z1, z2, z3, z4, z5]) rfl ⟨rfl, hbel⟩

set_option maxHeartbeats 2000000 in
theorem rdecode_other (s : ByteArray) (a : UInt8) (r : List UInt8) (k0 : Nat) (r0 : List UInt8) (k1 : Nat) (r1 : List UInt8) (k2 : Nat) (r2 : List UInt8) (k3 : Nat) (r3 : List UInt8) (k4 : Nat) (r4 : List UInt8) (d : List UInt8) (ot : Option (List UInt8 × List UInt8)) (w : World) (hs : s.size ≤ maxLen) (he : s.data.toList = a :: r) (h0 : takeNum r 1099511627776 = some (k0, r0)) (h1 : takeNum r0 1099511627776 = some (k1, r1)) (h2 : takeNum r1 1099511627776 = some (k2, r2)) (h3 : takeNum r2 1099511627776 = some (k3, r3)) (h4 : takeNum r3 1099511627776 = some (k4, r4)) (ht : takeText r4 256 = ot) (hd : d = (ot.map Prod.fst).getD []) (hok : (Tx.mk k0 k1 k2 k3 k4 ⟨d.toArray⟩).ok = true) (hx : enc (Tx.mk k0 k1 k2 k3 k4 ⟨d.toArray⟩) ≠ s.data.toList) :
    Calls Tryd.prog 15 #[.string s] w fun e w' => e = .returned (retDec none) ∧ Below w.heap.size w w' := by
  have hz : s.size = r.length + 1 := by
    have : s.data.toList.length = s.size := by simp
    rw [he] at this
    simp at this
    omega
  have hsb : (s.toList == ([] : List UInt8)) = false := by
    rw [ByteArray.toList_eq, he]
    rfl
  have S1 := str_from s 1 1 rfl (by omega)
  rw [he, List.drop_succ_cons, List.drop_zero] at S1
  have hl : r.length ≤ maxLen := by omega
  have N0 := Lib.hid (fun w => rtakenum_any ⟨r.toArray⟩ 1099511627776 w hl)
  simp only [] at N0
  rw [h0] at N0
  simp only [retNum] at N0
  have hl0 : r0.length ≤ maxLen := by
    have e := (takeNum_some _ _ _ _ h0).1
    have e2 := congrArg List.length e
    rw [List.length_append] at e2
    omega
  have N1 := Lib.hid (fun w => rtakenum_any ⟨r0.toArray⟩ 1099511627776 w hl0)
  simp only [] at N1
  rw [h1] at N1
  simp only [retNum] at N1
  have hl1 : r1.length ≤ maxLen := by
    have e := (takeNum_some _ _ _ _ h1).1
    have e2 := congrArg List.length e
    rw [List.length_append] at e2
    omega
  have N2 := Lib.hid (fun w => rtakenum_any ⟨r1.toArray⟩ 1099511627776 w hl1)
  simp only [] at N2
  rw [h2] at N2
  simp only [retNum] at N2
  have hl2 : r2.length ≤ maxLen := by
    have e := (takeNum_some _ _ _ _ h2).1
    have e2 := congrArg List.length e
    rw [List.length_append] at e2
    omega
  have N3 := Lib.hid (fun w => rtakenum_any ⟨r2.toArray⟩ 1099511627776 w hl2)
  simp only [] at N3
  rw [h3] at N3
  simp only [retNum] at N3
  have hl3 : r3.length ≤ maxLen := by
    have e := (takeNum_some _ _ _ _ h3).1
    have e2 := congrArg List.length e
    rw [List.length_append] at e2
    omega
  have N4 := Lib.hid (fun w => rtakenum_any ⟨r3.toArray⟩ 1099511627776 w hl3)
  simp only [] at N4
  rw [h4] at N4
  simp only [retNum] at N4
  have hl4 : r4.length ≤ maxLen := by
    have e := (takeNum_some _ _ _ _ h4).1
    have e2 := congrArg List.length e
    rw [List.length_append] at e2
    omega
  have TT : Hid (∀ w, ∃ q : List UInt8, ∃ is : Bool, Calls Tryd.prog 33 #[.string ⟨r4.toArray⟩, .int .i64 256] w fun e w' => e = .returned (.tuple #[.string ⟨d.toArray⟩, .string ⟨q.toArray⟩, .bool is]) ∧ Below w.heap.size w w') := by
    refine Lib.hid (fun w => ?_)
    have := rtaketext_any ⟨r4.toArray⟩ 256 w hl4
    simp only [] at this
    rw [ht] at this
    subst hd
    rcases ot with _ | ⟨d, q⟩
    · exact ⟨[], false, this⟩
    · exact ⟨q, true, this⟩
  have hdl : d.length ≤ maxLen := by
    subst hd
    rcases ot with _ | ⟨d, q⟩
    · show 0 ≤ maxLen; unfold maxLen; omega
    · have := (takeText_some _ _ _ _ ht).2.1
      show d.length ≤ maxLen
      unfold maxLen
      omega
  have K := Lib.hid (fun w => rencode (Tx.mk k0 k1 k2 k3 k4 ⟨d.toArray⟩) w hdl)
  rw [hok] at K
  simp only [Tx.val] at K
  have ev : encV (Tx.mk k0 k1 k2 k3 k4 ⟨d.toArray⟩) = enc (Tx.mk k0 k1 k2 k3 k4 ⟨d.toArray⟩) := by unfold encV; rw [hok]; rfl
  rw [ev] at K
  have hB : (enc (Tx.mk k0 k1 k2 k3 k4 ⟨d.toArray⟩) == s.toList) = false := by rw [ByteArray.toList_eq]; simpa using hx
  generalize enc (Tx.mk k0 k1 k2 k3 k4 ⟨d.toArray⟩) = E at K hB
  obtain ⟨w0, hw0, hbel, R, T⟩ := rblocks w
  clear he hz h0 h1 h2 h3 h4 ht hok ev hdl hd hx
  unfold maxLen at hs
  go_enter Tryd.func15, Tryd.ntmps15
  go_wp2_with fail
  rw [← hw0]
  clear hw0
  refine wp_loop_rounds 6 ?_
  rw [rounds_succ]
  go_wp2_with fail
  refine (N0.out _).mono ?_
  rintro e w1 ⟨rfl, hb1⟩
  have R := R.later hb1
  have T := T.later hb1
  have hbel := later hbel hb1
  clear hb1
  have fz := T.thaw 0
  have z := T.cell 0 (.int .i64 0) rfl
  go_wp2_with fail
  have R := R.aside (w.heap.size + 1) 0 (by omega) (.int .i64 k0)
  have T := T.put 0 (.int .i64 k0)
  have hbel := hbel.setCell (p := ⟨w.heap.size + 1, 0, none⟩) (by show w.heap.size ≤ w.heap.size + 1; omega) (.int .i64 k0)
  clear fz z
  generalize w1.setCell ⟨w.heap.size + 1, 0, none⟩ (.int .i64 k0) = w2 at R T hbel ⊢
  rw [rounds_succ]
  go_wp2_with fail
  refine (N1.out _).mono ?_
  rintro e w1 ⟨rfl, hb1⟩
  have R := R.later hb1
  have T := T.later hb1
  have hbel := later hbel hb1
  clear hb1
  have fz := T.thaw 1
  have z := T.cell 1 (.int .i64 0) rfl
  go_wp2_with fail
  have R := R.aside (w.heap.size + 1) 1 (by omega) (.int .i64 k1)
  have T := T.put 1 (.int .i64 k1)
  have hbel := hbel.setCell (p := ⟨w.heap.size + 1, 1, none⟩) (by show w.heap.size ≤ w.heap.size + 1; omega) (.int .i64 k1)
  clear fz z
  generalize w1.setCell ⟨w.heap.size + 1, 1, none⟩ (.int .i64 k1) = w2 at R T hbel ⊢
  rw [rounds_succ]
  go_wp2_with fail
  refine (N2.out _).mono ?_
  rintro e w1 ⟨rfl, hb1⟩
  have R := R.later hb1
  have T := T.later hb1
  have hbel := later hbel hb1
  clear hb1
  have fz := T.thaw 2
  have z := T.cell 2 (.int .i64 0) rfl
  go_wp2_with fail
  have R := R.aside (w.heap.size + 1) 2 (by omega) (.int .i64 k2)
  have T := T.put 2 (.int .i64 k2)
  have hbel := hbel.setCell (p := ⟨w.heap.size + 1, 2, none⟩) (by show w.heap.size ≤ w.heap.size + 1; omega) (.int .i64 k2)
  clear fz z
  generalize w1.setCell ⟨w.heap.size + 1, 2, none⟩ (.int .i64 k2) = w2 at R T hbel ⊢
  rw [rounds_succ]
  go_wp2_with fail
  refine (N3.out _).mono ?_
  rintro e w1 ⟨rfl, hb1⟩
  have R := R.later hb1
  have T := T.later hb1
  have hbel := later hbel hb1
  clear hb1
  have fz := T.thaw 3
  have z := T.cell 3 (.int .i64 0) rfl
  go_wp2_with fail
  have R := R.aside (w.heap.size + 1) 3 (by omega) (.int .i64 k3)
  have T := T.put 3 (.int .i64 k3)
  have hbel := hbel.setCell (p := ⟨w.heap.size + 1, 3, none⟩) (by show w.heap.size ≤ w.heap.size + 1; omega) (.int .i64 k3)
  clear fz z
  generalize w1.setCell ⟨w.heap.size + 1, 3, none⟩ (.int .i64 k3) = w2 at R T hbel ⊢
  rw [rounds_succ]
  go_wp2_with fail
  refine (N4.out _).mono ?_
  rintro e w1 ⟨rfl, hb1⟩
  have R := R.later hb1
  have T := T.later hb1
  have hbel := later hbel hb1
  clear hb1
  have fz := T.thaw 4
  have z := T.cell 4 (.int .i64 0) rfl
  go_wp2_with fail
  have R := R.aside (w.heap.size + 1) 4 (by omega) (.int .i64 k4)
  have T := T.put 4 (.int .i64 k4)
  have hbel := hbel.setCell (p := ⟨w.heap.size + 1, 4, none⟩) (by show w.heap.size ≤ w.heap.size + 1; omega) (.int .i64 k4)
  clear fz z
  generalize w1.setCell ⟨w.heap.size + 1, 4, none⟩ (.int .i64 k4) = w2 at R T hbel ⊢
  rw [rounds_succ]
  go_wp2_with fail
  obtain ⟨q, is, CT⟩ := TT.out w2
  refine CT.mono ?_
  rintro e w4 ⟨rfl, hb4⟩
  have R := R.later hb4
  have T := T.later hb4
  have hbel := later hbel hb4
  clear hb4
  have t0 := T.cell 0 (.int .i64 k0) rfl
  have t1 := T.cell 1 (.int .i64 k1) rfl
  have t2 := T.cell 2 (.int .i64 k2) rfl
  have t3 := T.cell 3 (.int .i64 k3) rfl
  have t4 := T.cell 4 (.int .i64 k4) rfl
  have B0 := Box.own w4 (Tx.mk k0 k1 k2 k3 k4 ⟨d.toArray⟩) 23
  simp only [] at B0
  have hl' : Below w4.heap.size w4 (w4.alloc (.cells #[.int .i64 (k0 : Int), .int .i64 (k1 : Int), .int .i64 (k2 : Int), .int .i64 (k3 : Int), .int .i64 (k4 : Int), .string ⟨d.toArray⟩] 23 (0, 0))) := laid (Below.refl _ _) _
  have R := R.later hl'
  have hbel := later hbel hl'
  clear hl'
  go_wp2_with fail
  generalize w4.alloc (.cells #[.int .i64 (k0 : Int), .int .i64 (k1 : Int), .int .i64 (k2 : Int), .int .i64 (k3 : Int), .int .i64 (k4 : Int), .string ⟨d.toArray⟩] 23 (0, 0)) = w5 at B0 R hbel ⊢
  refine (K.out _).mono ?_
  rintro e w6 ⟨rfl, hb6⟩
  have R := R.later hb6
  have hbel := later hbel hb6
  have B0 := B0.later hb6
  clear hb6 t0 t1 t2 t3 t4
  obtain ⟨c0, c1, c2, c3, c4, c5, _⟩ := B0
  simp only [] at c0 c1 c2 c3 c4 c5
  have fz := R.thaw
  have z0 := R.cell 0 (.int .i64 0) rfl
  have z1 := R.cell 1 (.int .i64 0) rfl
  have z2 := R.cell 2 (.int .i64 0) rfl
  have z3 := R.cell 3 (.int .i64 0) rfl
  have z4 := R.cell 4 (.int .i64 0) rfl
  have z5 := R.cell 5 (.string ⟨#[]⟩) rfl
  go_wp2_with fail
  have R := six_blk Tx.zero R
  have hbel := six_below w.heap.size Tx.zero hbel (Nat.le_refl _)
  clear fz z0 z1 z2 z3 z4 z5
  have z0 := R.cell 0 _ rfl
  have z1 := R.cell 1 _ rfl
  have z2 := R.cell 2 _ rfl
  have z3 := R.cell 3 _ rfl
  have z4 := R.cell 4 _ rfl
  have z5 := R.cell 5 _ rfl
  simp only [six, Tx.zero] at hbel z0 z1 z2 z3 z4 z5
  refine bodyPost_ret (v := retDec none) (by simp [results, Tryd.results15, go_sem, retDec, Tx.val, Tx.zero, z0, z1, z2, z3, z4, z5]) rfl ⟨rfl, hbel⟩

set_option maxHeartbeats 2000000 in
theorem rdecode_good (s : ByteArray) (a : UInt8) (r : List UInt8) (k0 : Nat) (r0 : List UInt8) (k1 : Nat) (r1 : List UInt8) (k2 : Nat) (r2 : List UInt8) (k3 : Nat) (r3 : List UInt8) (k4 : Nat) (r4 : List UInt8) (d : List UInt8) (ot : Option (List UInt8 × List UInt8)) (w : World) (hs : s.size ≤ maxLen) (he : s.data.toList = a :: r) (h0 : takeNum r 1099511627776 = some (k0, r0)) (h1 : takeNum r0 1099511627776 = some (k1, r1)) (h2 : takeNum r1 1099511627776 = some (k2, r2)) (h3 : takeNum r2 1099511627776 = some (k3, r3)) (h4 : takeNum r3 1099511627776 = some (k4, r4)) (ht : takeText r4 256 = ot) (hd : d = (ot.map Prod.fst).getD []) (hok : (Tx.mk k0 k1 k2 k3 k4 ⟨d.toArray⟩).ok = true) (hx : enc (Tx.mk k0 k1 k2 k3 k4 ⟨d.toArray⟩) = s.data.toList) :
    Calls Tryd.prog 15 #[.string s] w fun e w' => e = .returned (retDec (some (Tx.mk k0 k1 k2 k3 k4 ⟨d.toArray⟩))) ∧ Below w.heap.size w w' := by
  have hz : s.size = r.length + 1 := by
    have : s.data.toList.length = s.size := by simp
    rw [he] at this
    simp at this
    omega
  have hsb : (s.toList == ([] : List UInt8)) = false := by
    rw [ByteArray.toList_eq, he]
    rfl
  have S1 := str_from s 1 1 rfl (by omega)
  rw [he, List.drop_succ_cons, List.drop_zero] at S1
  have hl : r.length ≤ maxLen := by omega
  have N0 := Lib.hid (fun w => rtakenum_any ⟨r.toArray⟩ 1099511627776 w hl)
  simp only [] at N0
  rw [h0] at N0
  simp only [retNum] at N0
  have hl0 : r0.length ≤ maxLen := by
    have e := (takeNum_some _ _ _ _ h0).1
    have e2 := congrArg List.length e
    rw [List.length_append] at e2
    omega
  have N1 := Lib.hid (fun w => rtakenum_any ⟨r0.toArray⟩ 1099511627776 w hl0)
  simp only [] at N1
  rw [h1] at N1
  simp only [retNum] at N1
  have hl1 : r1.length ≤ maxLen := by
    have e := (takeNum_some _ _ _ _ h1).1
    have e2 := congrArg List.length e
    rw [List.length_append] at e2
    omega
  have N2 := Lib.hid (fun w => rtakenum_any ⟨r1.toArray⟩ 1099511627776 w hl1)
  simp only [] at N2
  rw [h2] at N2
  simp only [retNum] at N2
  have hl2 : r2.length ≤ maxLen := by
    have e := (takeNum_some _ _ _ _ h2).1
    have e2 := congrArg List.length e
    rw [List.length_append] at e2
    omega
  have N3 := Lib.hid (fun w => rtakenum_any ⟨r2.toArray⟩ 1099511627776 w hl2)
  simp only [] at N3
  rw [h3] at N3
  simp only [retNum] at N3
  have hl3 : r3.length ≤ maxLen := by
    have e := (takeNum_some _ _ _ _ h3).1
    have e2 := congrArg List.length e
    rw [List.length_append] at e2
    omega
  have N4 := Lib.hid (fun w => rtakenum_any ⟨r3.toArray⟩ 1099511627776 w hl3)
  simp only [] at N4
  rw [h4] at N4
  simp only [retNum] at N4
  have hl4 : r4.length ≤ maxLen := by
    have e := (takeNum_some _ _ _ _ h4).1
    have e2 := congrArg List.length e
    rw [List.length_append] at e2
    omega
  have TT : Hid (∀ w, ∃ q : List UInt8, ∃ is : Bool, Calls Tryd.prog 33 #[.string ⟨r4.toArray⟩, .int .i64 256] w fun e w' => e = .returned (.tuple #[.string ⟨d.toArray⟩, .string ⟨q.toArray⟩, .bool is]) ∧ Below w.heap.size w w') := by
    refine Lib.hid (fun w => ?_)
    have := rtaketext_any ⟨r4.toArray⟩ 256 w hl4
    simp only [] at this
    rw [ht] at this
    subst hd
    rcases ot with _ | ⟨d, q⟩
    · exact ⟨[], false, this⟩
    · exact ⟨q, true, this⟩
  have hdl : d.length ≤ maxLen := by
    subst hd
    rcases ot with _ | ⟨d, q⟩
    · show 0 ≤ maxLen; unfold maxLen; omega
    · have := (takeText_some _ _ _ _ ht).2.1
      show d.length ≤ maxLen
      unfold maxLen
      omega
  have K := Lib.hid (fun w => rencode (Tx.mk k0 k1 k2 k3 k4 ⟨d.toArray⟩) w hdl)
  rw [hok] at K
  simp only [Tx.val] at K
  have ev : encV (Tx.mk k0 k1 k2 k3 k4 ⟨d.toArray⟩) = enc (Tx.mk k0 k1 k2 k3 k4 ⟨d.toArray⟩) := by unfold encV; rw [hok]; rfl
  rw [ev] at K
  have hB : (enc (Tx.mk k0 k1 k2 k3 k4 ⟨d.toArray⟩) == s.toList) = true := by rw [ByteArray.toList_eq]; simpa using hx
  generalize enc (Tx.mk k0 k1 k2 k3 k4 ⟨d.toArray⟩) = E at K hB
  obtain ⟨w0, hw0, hbel, R, T⟩ := rblocks w
  clear he hz h0 h1 h2 h3 h4 ht hok ev hdl hd hx
  unfold maxLen at hs
  go_enter Tryd.func15, Tryd.ntmps15
  go_wp2_with fail
  rw [← hw0]
  clear hw0
  refine wp_loop_rounds 6 ?_
  rw [rounds_succ]
  go_wp2_with fail
  refine (N0.out _).mono ?_
  rintro e w1 ⟨rfl, hb1⟩
  have R := R.later hb1
  have T := T.later hb1
  have hbel := later hbel hb1
  clear hb1
  have fz := T.thaw 0
  have z := T.cell 0 (.int .i64 0) rfl
  go_wp2_with fail
  have R := R.aside (w.heap.size + 1) 0 (by omega) (.int .i64 k0)
  have T := T.put 0 (.int .i64 k0)
  have hbel := hbel.setCell (p := ⟨w.heap.size + 1, 0, none⟩) (by show w.heap.size ≤ w.heap.size + 1; omega) (.int .i64 k0)
  clear fz z
  generalize w1.setCell ⟨w.heap.size + 1, 0, none⟩ (.int .i64 k0) = w2 at R T hbel ⊢
  rw [rounds_succ]
  go_wp2_with fail
  refine (N1.out _).mono ?_
  rintro e w1 ⟨rfl, hb1⟩
  have R := R.later hb1
  have T := T.later hb1
  have hbel := later hbel hb1
  clear hb1
  have fz := T.thaw 1
  have z := T.cell 1 (.int .i64 0) rfl
  go_wp2_with fail
  have R := R.aside (w.heap.size + 1) 1 (by omega) (.int .i64 k1)
  have T := T.put 1 (.int .i64 k1)
  have hbel := hbel.setCell (p := ⟨w.heap.size + 1, 1, none⟩) (by show w.heap.size ≤ w.heap.size + 1; omega) (.int .i64 k1)
  clear fz z
  generalize w1.setCell ⟨w.heap.size + 1, 1, none⟩ (.int .i64 k1) = w2 at R T hbel ⊢
  rw [rounds_succ]
  go_wp2_with fail
  refine (N2.out _).mono ?_
  rintro e w1 ⟨rfl, hb1⟩
  have R := R.later hb1
  have T := T.later hb1
  have hbel := later hbel hb1
  clear hb1
  have fz := T.thaw 2
  have z := T.cell 2 (.int .i64 0) rfl
  go_wp2_with fail
  have R := R.aside (w.heap.size + 1) 2 (by omega) (.int .i64 k2)
  have T := T.put 2 (.int .i64 k2)
  have hbel := hbel.setCell (p := ⟨w.heap.size + 1, 2, none⟩) (by show w.heap.size ≤ w.heap.size + 1; omega) (.int .i64 k2)
  clear fz z
  generalize w1.setCell ⟨w.heap.size + 1, 2, none⟩ (.int .i64 k2) = w2 at R T hbel ⊢
  rw [rounds_succ]
  go_wp2_with fail
  refine (N3.out _).mono ?_
  rintro e w1 ⟨rfl, hb1⟩
  have R := R.later hb1
  have T := T.later hb1
  have hbel := later hbel hb1
  clear hb1
  have fz := T.thaw 3
  have z := T.cell 3 (.int .i64 0) rfl
  go_wp2_with fail
  have R := R.aside (w.heap.size + 1) 3 (by omega) (.int .i64 k3)
  have T := T.put 3 (.int .i64 k3)
  have hbel := hbel.setCell (p := ⟨w.heap.size + 1, 3, none⟩) (by show w.heap.size ≤ w.heap.size + 1; omega) (.int .i64 k3)
  clear fz z
  generalize w1.setCell ⟨w.heap.size + 1, 3, none⟩ (.int .i64 k3) = w2 at R T hbel ⊢
  rw [rounds_succ]
  go_wp2_with fail
  refine (N4.out _).mono ?_
  rintro e w1 ⟨rfl, hb1⟩
  have R := R.later hb1
  have T := T.later hb1
  have hbel := later hbel hb1
  clear hb1
  have fz := T.thaw 4
  have z := T.cell 4 (.int .i64 0) rfl
  go_wp2_with fail
  have R := R.aside (w.heap.size + 1) 4 (by omega) (.int .i64 k4)
  have T := T.put 4 (.int .i64 k4)
  have hbel := hbel.setCell (p := ⟨w.heap.size + 1, 4, none⟩) (by show w.heap.size ≤ w.heap.size + 1; omega) (.int .i64 k4)
  clear fz z
  generalize w1.setCell ⟨w.heap.size + 1, 4, none⟩ (.int .i64 k4) = w2 at R T hbel ⊢
  rw [rounds_succ]
  go_wp2_with fail
  obtain ⟨q, is, CT⟩ := TT.out w2
  refine CT.mono ?_
  rintro e w4 ⟨rfl, hb4⟩
  have R := R.later hb4
  have T := T.later hb4
  have hbel := later hbel hb4
  clear hb4
  have t0 := T.cell 0 (.int .i64 k0) rfl
  have t1 := T.cell 1 (.int .i64 k1) rfl
  have t2 := T.cell 2 (.int .i64 k2) rfl
  have t3 := T.cell 3 (.int .i64 k3) rfl
  have t4 := T.cell 4 (.int .i64 k4) rfl
  have B0 := Box.own w4 (Tx.mk k0 k1 k2 k3 k4 ⟨d.toArray⟩) 23
  simp only [] at B0
  have hl' : Below w4.heap.size w4 (w4.alloc (.cells #[.int .i64 (k0 : Int), .int .i64 (k1 : Int), .int .i64 (k2 : Int), .int .i64 (k3 : Int), .int .i64 (k4 : Int), .string ⟨d.toArray⟩] 23 (0, 0))) := laid (Below.refl _ _) _
  have R := R.later hl'
  have hbel := later hbel hl'
  clear hl'
  go_wp2_with fail
  generalize w4.alloc (.cells #[.int .i64 (k0 : Int), .int .i64 (k1 : Int), .int .i64 (k2 : Int), .int .i64 (k3 : Int), .int .i64 (k4 : Int), .string ⟨d.toArray⟩] 23 (0, 0)) = w5 at B0 R hbel ⊢
  refine (K.out _).mono ?_
  rintro e w6 ⟨rfl, hb6⟩
  have R := R.later hb6
  have hbel := later hbel hb6
  have B0 := B0.later hb6
  clear hb6 t0 t1 t2 t3 t4
  obtain ⟨c0, c1, c2, c3, c4, c5, _⟩ := B0
  simp only [] at c0 c1 c2 c3 c4 c5
  have fz := R.thaw
  have z0 := R.cell 0 (.int .i64 0) rfl
  have z1 := R.cell 1 (.int .i64 0) rfl
  have z2 := R.cell 2 (.int .i64 0) rfl
  have z3 := R.cell 3 (.int .i64 0) rfl
  have z4 := R.cell 4 (.int .i64 0) rfl
  have z5 := R.cell 5 (.string ⟨#[]⟩) rfl
  go_wp2_with fail
  have R := six_blk (Tx.mk k0 k1 k2 k3 k4 ⟨d.toArray⟩) R
  have hbel := six_below w.heap.size (Tx.mk k0 k1 k2 k3 k4 ⟨d.toArray⟩) hbel (Nat.le_refl _)
  clear fz z0 z1 z2 z3 z4 z5
  have z0 := R.cell 0 _ rfl
  have z1 := R.cell 1 _ rfl
  have z2 := R.cell 2 _ rfl
  have z3 := R.cell 3 _ rfl
  have z4 := R.cell 4 _ rfl
  have z5 := R.cell 5 _ rfl
  simp only [six, Tx.zero] at hbel z0 z1 z2 z3 z4 z5
  refine bodyPost_ret (v := retDec (some (Tx.mk k0 k1 k2 k3 k4 ⟨d.toArray⟩))) (by simp [results, Tryd.results15, go_sem, retDec, Tx.val, Tx.zero, z0, z1, z2, z3, z4, z5]) rfl ⟨rfl, hbel⟩

end Go.Proofs.YtfhbcnomlgiciaaDoor.txn
