/- The document's own Decode (hopperref04), by contract. -/
import Derived.Test.YtfhbcnomlgiciaaDoorTxnDec
import Derived.Test.YtfhbcnomlgiciaaDoorTxnREnc
namespace Go.Proofs.YtfhbcnomlgiciaaDoor.txn
open Go.RowKit codec
set_option linter.unusedVariables false
set_option linter.unusedSimpArgs false

/-- A block of an array, and what it holds. -/
def IBlk (w : World) (b : Nat) (l : List Value) : Prop := w.heap[b]? = some (.cells l.toArray 37 (0, 0))
theorem IBlk.lt {w : World} {b : Nat} {l : List Value} (h : IBlk w b l) : b < w.heap.size := by
  unfold IBlk at h
  exact (Array.getElem?_eq_some_iff.1 h).1
theorem IBlk.later {w w' : World} {b : Nat} {l : List Value} (h : IBlk w b l) (k : Below w.heap.size w w') : IBlk w' b l := (k.block b h.lt).trans h
theorem IBlk.cell {w : World} {b : Nat} {l : List Value} (h : IBlk w b l) (i : Nat) (v : Value) (hi : l[i]? = some v) : w.cell? ⟨b, i, none⟩ = some v := by
  unfold IBlk at h
  simp only [World.cell?, h]
  simpa using hi
theorem IBlk.thaw {w : World} {b : Nat} {l : List Value} (h : IBlk w b l) (i : Nat) : w.frozen? ⟨b, i, none⟩ = false := by
  unfold IBlk at h
  simp [World.frozen?, h]
theorem IBlk.put {w : World} {b : Nat} {l : List Value} (h : IBlk w b l) (i : Nat) (v : Value) : IBlk (w.setCell ⟨b, i, none⟩ v) b (l.set i v) := by
  unfold IBlk at h ⊢
  rw [heap_setCell_same w b i _ _ v h]
  simp
theorem IBlk.aside {w : World} {b : Nat} {l : List Value} (h : IBlk w b l) (b' i : Nat) (hb : b' ≠ b) (v : Value) : IBlk (w.setCell ⟨b', i, none⟩ v) b l := by
  unfold IBlk at h ⊢
  rw [Below.heap_setCell w _ v b (by simpa using hb.symm)]
  exact h

/-- The blocks that the document's Decode makes. -/
theorem rblocks (w : World) : ∃ w0, w0 = (w.alloc (.cells #[.int .i64 0, .int .i64 0, .int .i64 0, .int .i64 0, .int .i64 0, .string ⟨#[]⟩] 23 (0, 0))).alloc (.cells #[.int .i64 0, .int .i64 0, .int .i64 0, .int .i64 0, .int .i64 0] 37 (0, 0)) ∧
    Below w.heap.size w w0 ∧ TBlk w0 w.heap.size Tx.zero.cells ∧ IBlk w0 (w.heap.size + 1) (vals [0, 0, 0, 0, 0]) := by
  refine ⟨_, rfl, laid (laid (Below.refl _ _) _) _, ?_, ?_⟩
  · show ((w.heap.push _).push _)[w.heap.size]? = _
    simp [Tx.zero, Tx.cells, Array.getElem?_push]
  · have e : ∀ (a : Array Obj) (x y : Obj), ((a.push x).push y)[a.size + 1]? = some y := fun a x y => by
      have := Array.getElem?_push_size (xs := a.push x) (x := y)
      rwa [Array.size_push] at this
    exact e _ _ _
theorem TBlk.side {w : World} {b : Nat} {l : List Value} (h : TBlk w b l) (b' i : Nat) (hb : b' ≠ b) (v : Value) : TBlk (w.setCell ⟨b', i, none⟩ v) b l := h.aside b' i hb v

set_option maxHeartbeats 2000000 in
theorem rdecode_empty (s : ByteArray) (w : World) (hs : s.size ≤ maxLen) (he : s.size = 0) :
    Calls Tryd.prog 15 #[.string s] w fun e w' => e = .returned (retDec none) ∧ Below w.heap.size w w' := by
  have hsb : (s.toList == ([] : List UInt8)) = true := by
    rw [ByteArray.toList_eq]
    have : s.data.toList.length = 0 := (show s.data.toList.length = s.size by simp).trans he
    rw [List.length_eq_zero_iff.1 this]
    rfl
  have hs2 : s.size ≤ 10 := by omega
  obtain ⟨w0, hw0, hbel, R, T⟩ := rblocks w
  clear he hs
  go_enter Tryd.func15, Tryd.ntmps15
  go_wp2_with fail
  try rw [← hw0]
  have fz := R.thaw
  have z0 := R.cell 0 (.int .i64 0) rfl
  have z1 := R.cell 1 (.int .i64 0) rfl
  have z2 := R.cell 2 (.int .i64 0) rfl
  have z3 := R.cell 3 (.int .i64 0) rfl
  have z4 := R.cell 4 (.int .i64 0) rfl
  have z5 := R.cell 5 (.string ⟨#[]⟩) rfl
  go_wp2_with fail
  refine bodyPost_ret (v := retDec none) (by simp [results, Tryd.results15, go_sem, retDec, Tx.val, Tx.zero, z0, z1, z2, z3, z4, z5]) rfl ⟨rfl, hbel⟩

set_option maxHeartbeats 2000000 in
theorem rdecode_n0 (s : ByteArray) (a : UInt8) (r : List UInt8) (w : World) (hs : s.size ≤ maxLen) (he : s.data.toList = a :: r) (h0 : takeNum r 1099511627776 = none) :
    Calls Tryd.prog 15 #[.string s] w fun e w' => e = .returned (retDec none) ∧ Below w.heap.size w w' := by
  have hz : s.size = r.length + 1 := by
    have : s.data.toList.length = s.size := by simp
    rw [he] at this
    simp at this
    omega
  have hsb : (s.toList == ([] : List UInt8)) = false := by
    rw [ByteArray.toList_eq, he]
    rfl
  have S1 := str_from s 1 1 rfl (by omega)
  rw [he, List.drop_succ_cons, List.drop_zero] at S1
  have hl : r.length ≤ maxLen := by omega
  have N0 := Lib.hid (fun w => rtakenum_any ⟨r.toArray⟩ 1099511627776 w hl)
  simp only [] at N0
  rw [h0] at N0
  simp only [retNum] at N0
  obtain ⟨w0, hw0, hbel, R, T⟩ := rblocks w
  clear he hz h0
  unfold maxLen at hs
  go_enter Tryd.func15, Tryd.ntmps15
  go_wp2_with fail
  rw [← hw0]
  clear hw0
  refine wp_loop_rounds 6 ?_
  rw [rounds_succ]
  go_wp2_with fail
  refine (N0.out _).mono ?_
  rintro e w1 ⟨rfl, hb1⟩
  have R := R.later hb1
  have T := T.later hb1
  have hbel := later hbel hb1
  clear hb1
  have fz := R.thaw
  have z0 := R.cell 0 (.int .i64 0) rfl
  have z1 := R.cell 1 (.int .i64 0) rfl
  have z2 := R.cell 2 (.int .i64 0) rfl
  have z3 := R.cell 3 (.int .i64 0) rfl
  have z4 := R.cell 4 (.int .i64 0) rfl
  have z5 := R.cell 5 (.string ⟨#[]⟩) rfl
  go_wp2_with fail
  have R := six_blk Tx.zero R
  have hbel := six_below w.heap.size Tx.zero hbel (Nat.le_refl _)
  clear fz z0 z1 z2 z3 z4 z5
  have z0 := R.cell 0 _ rfl
  have z1 := R.cell 1 _ rfl
  have z2 := R.cell 2 _ rfl
  have z3 := R.cell 3 _ rfl
  have z4 := R.cell 4 _ rfl
  have z5 := R.cell 5 _ rfl
  simp only [six, Tx.zero] at hbel z0 z1 z2 z3 z4 z5
  refine bodyPost_ret (v := retDec none) (by simp [results, Tryd.results15, go_sem, retDec, Tx.val, Tx.zero, z0, z1, z2, z3, z4, z5]) rfl ⟨rfl, hbel⟩

set_option maxHeartbeats 2000000 in
theorem rdecode_n1 (s : ByteArray) (a : UInt8) (r : List UInt8) (k0 : Nat) (r0 : List UInt8) (w : World) (hs : s.size ≤ maxLen) (he : s.data.toList = a :: r) (h0 : takeNum r 1099511627776 = some (k0, r0)) (h1 : takeNum r0 1099511627776 = none) :
    Calls Tryd.prog 15 #[.string s] w fun e w' => e = .returned (retDec none) ∧ Below w.heap.size w w' := by
  have hz : s.size = r.length + 1 := by
    have : s.data.toList.length = s.size := by simp
    rw [he] at this
    simp at this
    omega
  have hsb : (s.toList == ([] : List UInt8)) = false := by
    rw [ByteArray.toList_eq, he]
    rfl
  have S1 := str_from s 1 1 rfl (by omega)
  rw [he, List.drop_succ_cons, List.drop_zero] at S1
  have hl : r.length ≤ maxLen := by omega
  have N0 := Lib.hid (fun w => rtakenum_any ⟨r.toArray⟩ 1099511627776 w hl)
  simp only [] at N0
  rw [h0] at N0
  simp only [retNum] at N0
  have hl0 : r0.length ≤ maxLen := by
    have e := (takeNum_some _ _ _ _ h0).1
    have e2 := congrArg List.length e
    rw [List.length_append] at e2
    omega
  have N1 := Lib.hid (fun w => rtakenum_any ⟨r0.toArray⟩ 1099511627776 w hl0)
  simp only [] at N1
  rw [h1] at N1
  simp only [retNum] at N1
  obtain ⟨w0, hw0, hbel, R, T⟩ := rblocks w
  clear he hz h0 h1
  unfold maxLen at hs
  go_enter Tryd.func15, Tryd.ntmps15
  go_wp2_with fail
  rw [← hw0]
  clear hw0
  refine wp_loop_rounds 6 ?_
  rw [rounds_succ]
  go_wp2_with fail
  refine (N0.out _).mono ?_
  rintro e w1 ⟨rfl, hb1⟩
  have R := R.later hb1
  have T := T.later hb1
  have hbel := later hbel hb1
  clear hb1
  have fz := T.thaw 0
  have z := T.cell 0 (.int .i64 0) rfl
  go_wp2_with fail
  have R := R.aside (w.heap.size + 1) 0 (by omega) (.int .i64 k0)
  have T := T.put 0 (.int .i64 k0)
  have hbel := hbel.setCell (p := ⟨w.heap.size + 1, 0, none⟩) (by show w.heap.size ≤ w.heap.size + 1; omega) (.int .i64 k0)
  clear fz z
  generalize w1.setCell ⟨w.heap.size + 1, 0, none⟩ (.int .i64 k0) = w2 at R T hbel ⊢
  rw [rounds_succ]
  go_wp2_with fail
  refine (N1.out _).mono ?_
  rintro e w1 ⟨rfl, hb1⟩
  have R := R.later hb1
  have T := T.later hb1
  have hbel := later hbel hb1
  clear hb1
  have fz := R.thaw
  have z0 := R.cell 0 (.int .i64 0) rfl
  have z1 := R.cell 1 (.int .i64 0) rfl
  have z2 := R.cell 2 (.int .i64 0) rfl
  have z3 := R.cell 3 (.int .i64 0) rfl
  have z4 := R.cell 4 (.int .i64 0) rfl
  have z5 := R.cell 5 (.string ⟨#[]⟩) rfl
  go_wp2_with fail
  have R := six_blk Tx.zero R
  have hbel := six_below w.heap.size Tx.zero hbel (Nat.le_refl _)
  clear fz z0 z1 z2 z3 z4 z5
  have z0 := R.cell 0 _ rfl
  have z1 := R.cell 1 _ rfl
  have z2 := R.cell 2 _ rfl
  have z3 := R.cell 3 _ rfl
  have z4 := R.cell 4 _ rfl
  have z5 := R.cell 5 _ rfl
  simp only [six, Tx.zero] at hbel z0 z1 z2 z3 z4 z5
  refine bodyPost_ret (v := retDec none) (by simp [results, Tryd.results15, go_sem, retDec, Tx.val, Tx.zero, z0, z1, z2, z3, z4, z5]) rfl ⟨rfl, hbel⟩

set_option maxHeartbeats 2000000 in
theorem rdecode_n2 (s : ByteArray) (a : UInt8) (r : List UInt8) (k0 : Nat) (r0 : List UInt8) (k1 : Nat) (r1 : List UInt8) (w : World) (hs : s.size ≤ maxLen) (he : s.data.toList = a :: r) (h0 : takeNum r 1099511627776 = some (k0, r0)) (h1 : takeNum r0 1099511627776 = some (k1, r1)) (h2 : takeNum r1 1099511627776 = none) :
    Calls Tryd.prog 15 #[.string s] w fun e w' => e = .returned (retDec none) ∧ Below w.heap.size w w' := by
  have hz : s.size = r.length + 1 := by
    have : s.data.toList.length = s.size := by simp
    rw [he] at this
    simp at this
    omega
  have hsb : (s.toList == ([] : List UInt8)) = false := by
    rw [ByteArray.toList_eq, he]
    rfl
  have S1 := str_from s 1 1 rfl (by omega)
  rw [he, List.drop_succ_cons, List.drop_zero] at S1
  have hl : r.length ≤ maxLen := by omega
  have N0 := Lib.hid (fun w => rtakenum_any ⟨r.toArray⟩ 1099511627776 w hl)
  simp only [] at N0
  rw [h0] at N0
  simp only [retNum] at N0
  have hl0 : r0.length ≤ maxLen := by
    have e := (takeNum_some _ _ _ _ h0).1
    have e2 := congrArg List.length e
    rw [List.length_append] at e2
    omega
  have N1 := Lib.hid (fun w => rtakenum_any ⟨r0.toArray⟩ 1099511627776 w hl0)
  simp only [] at N1
  rw [h1] at N1
  simp only [retNum] at N1
  have hl1 : r1.length ≤ maxLen := by
    have e := (takeNum_some _ _ _ _ h1).1
    have e2 := congrArg List.length e
    rw [List.length_append] at e2
    omega
  have N2 := Lib.hid (fun w => rtakenum_any ⟨r1.toArray⟩ 1099511627776 w hl1)
  simp only [] at N2
  rw [h2] at N2
  simp only [retNum] at N2
  obtain ⟨w0, hw0, hbel, R, T⟩ := rblocks w
  clear he hz h0 h1 h2
  unfold maxLen at hs
  go_enter Tryd.func15, Tryd.ntmps15
  go_wp2_with fail
  rw [← hw0]
  clear hw0
  refine wp_loop_rounds 6 ?_
  rw [rounds_succ]
  go_wp2_with fail
  refine (N0.out _).mono ?_
  rintro e w1 ⟨rfl, hb1⟩
  have R := R.later hb1
  have T := T.later hb1
  have hbel := later hbel hb1
  clear hb1
  have fz := T.thaw 0
  have z := T.cell 0 (.int .i64 0) rfl
  go_wp2_with fail
  have R := R.aside (w.heap.size + 1) 0 (by omega) (.int .i64 k0)
  have T := T.put 0 (.int .i64 k0)
  have hbel := hbel.setCell (p := ⟨w.heap.size + 1, 0, none⟩) (by show w.heap.size ≤ w.heap.size + 1; omega) (.int .i64 k0)
  clear fz z
  generalize w1.setCell ⟨w.heap.size + 1, 0, none⟩ (.int .i64 k0) = w2 at R T hbel ⊢
  rw [rounds_succ]
  go_wp2_with fail
  refine (N1.out _).mono ?_
  rintro e w1 ⟨rfl, hb1⟩
  have R := R.later hb1
  have T := T.later hb1
  have hbel := later hbel hb1
  clear hb1
  have fz := T.thaw 1
  have z := T.cell 1 (.int .i64 0) rfl
  go_wp2_with fail
  have R := R.aside (w.heap.size + 1) 1 (by omega) (.int .i64 k1)
  have T := T.put 1 (.int .i64 k1)
  have hbel := hbel.setCell (p := ⟨w.heap.size + 1, 1, none⟩) (by show w.heap.size ≤ w.heap.size + 1; omega) (.int .i64 k1)
  clear fz z
  generalize w1.setCell ⟨w.heap.size + 1, 1, none⟩ (.int .i64 k1) = w2 at R T hbel ⊢
  rw [rounds_succ]
  go_wp2_with fail
  refine (N2.out _).mono ?_
  rintro e w1 ⟨rfl, hb1⟩
  have R := R.later hb1
  have T := T.later hb1
  have hbel := later hbel hb1
  clear hb1
  have fz := R.thaw
  have z0 := R.cell 0 (.int .i64 0) rfl
  have z1 := R.cell 1 (.int .i64 0) rfl
  have z2 := R.cell 2 (.int .i64 0) rfl
  have z3 := R.cell 3 (.int .i64 0) rfl
  have z4 := R.cell 4 (.int .i64 0) rfl
  have z5 := R.cell 5 (.string ⟨#[]⟩) rfl
  go_wp2_with fail
  have R := six_blk Tx.zero R
  have hbel := six_below w.heap.size Tx.zero hbel (Nat.le_refl _)
  clear fz z0 z1 z2 z3 z4 z5
  have z0 := R.cell 0 _ rfl
  have z1 := R.cell 1 _ rfl
  have z2 := R.cell 2 _ rfl
  have z3 := R.cell 3 _ rfl
  have z4 := R.cell 4 _ rfl
  have z5 := R.cell 5 _ rfl
  simp only [six, Tx.zero] at hbel z0 z1 z2 z3 z4 z5
  refine bodyPost_ret (v := retDec none) (by simp [results, Tryd.results15, go_sem, retDec, Tx.val, Tx.zero, z0, z1, z2, z3, z4, z5]) rfl ⟨rfl, hbel⟩

set_option maxHeartbeats 2000000 in
theorem rdecode_n3 (s : ByteArray) (a : UInt8) (r : List UInt8) (k0 : Nat) (r0 : List UInt8) (k1 : Nat) (r1 : List UInt8) (k2 : Nat) (r2 : List UInt8) (w : World) (hs : s.size ≤ maxLen) (he : s.data.toList = a :: r) (h0 : takeNum r 1099511627776 = some (k0, r0)) (h1 : takeNum r0 1099511627776 = some (k1, r1)) (h2 : takeNum r1 1099511627776 = some (k2, r2)) (h3 : takeNum r2 1099511627776 = none) :
    Calls Tryd.prog 15 #[.string s] w fun e w' => e = .returned (retDec none) ∧ Below w.heap.size w w' := by
  have hz : s.size = r.length + 1 := by
    have : s.data.toList.length = s.size := by simp
    rw [he] at this
    simp at this
    omega
  have hsb : (s.toList == ([] : List UInt8)) = false := by
    rw [ByteArray.toList_eq, he]
    rfl
  have S1 := str_from s 1 1 rfl (by omega)
  rw [he, List.drop_succ_cons, List.drop_zero] at S1
  have hl : r.length ≤ maxLen := by omega
  have N0 := Lib.hid (fun w => rtakenum_any ⟨r.toArray⟩ 1099511627776 w hl)
  simp only [] at N0
  rw [h0] at N0
  simp only [retNum] at N0
  have hl0 : r0.length ≤ maxLen := by
    have e := (takeNum_some _ _ _ _ h0).1
    have e2 := congrArg List.length e
    rw [List.length_append] at e2
    omega
  have N1 := Lib.hid (fun w => rtakenum_any ⟨r0.toArray⟩ 1099511627776 w hl0)
  simp only [] at N1
  rw [h1] at N1
  simp only [retNum] at N1
  have hl1 : r1.length ≤ maxLen := by
    have e := (takeNum_some _ _ _ _ h1).1
    have e2 := congrArg List.length e
    rw [List.length_append] at e2
    omega
  have N2 := Lib.hid (fun w => rtakenum_any ⟨r1.toArray⟩ 1099511627776 w hl1)
  simp only [] at N2
  rw [h2] at N2
  simp only [retNum] at N2
  have hl2 : r2.length ≤ maxLen := by
    have e := (takeNum_some _ _ _ _ h2).1
    have e2 := congrArg List.length e
    rw [List.length_append] at e2
    omega
  have N3 := Lib.hid (fun w => rtakenum_any ⟨r2.toArray⟩ 1099511627776 w hl2)
  simp only [] at N3
  rw [h3] at N3
  simp only [retNum] at N3
  obtain ⟨w0, hw0, hbel, R, T⟩ := rblocks w
  clear he hz h0 h1 h2 h3
  unfold maxLen at hs
  go_enter Tryd.func15, Tryd.ntmps15
  go_wp2_with fail
  rw [← hw0]
  clear hw0
  refine wp_loop_rounds 6 ?_
  rw [rounds_succ]
  go_wp2_with fail
  refine (N0.out _).mono ?_
  rintro e w1 ⟨rfl, hb1⟩
  have R := R.later hb1
  have T := T.later hb1
  have hbel := later hbel hb1
  clear hb1
  have fz := T.thaw 0
  have z := T.cell 0 (.int .i64 0) rfl
  go_wp2_with fail
  have R := R.aside (w.heap.size + 1) 0 (by omega) (.int .i64 k0)
  have T := T.put 0 (.int .i64 k0)
  have hbel := hbel.setCell (p := ⟨w.heap.size + 1, 0, none⟩) (by show w.heap.size ≤ w.heap.size + 1; omega) (.int .i64 k0)
  clear fz z
  generalize w1.setCell ⟨w.heap.size + 1, 0, none⟩ (.int .i64 k0) = w2 at R T hbel ⊢
  rw [rounds_succ]
  go_wp2_with fail
  refine (N1.out _).mono ?_
  rintro e w1 ⟨rfl, hb1⟩
  have R := R.later hb1
  have T := T.later hb1
  have hbel := later hbel hb1
  clear hb1
  have fz := T.thaw 1
  have z := T.cell 1 (.int .i64 0) rfl
  go_wp2_with fail
  have R := R.aside (w.heap.size + 1) 1 (by omega) (.int .i64 k1)
  have T := T.put 1 (.int .i64 k1)
  have hbel := hbel.setCell (p := ⟨w.heap.size + 1, 1, none⟩) (by show w.heap.size ≤ w.heap.size + 1; omega) (.int .i64 k1)
  clear fz z
  generalize w1.setCell ⟨w.heap.size + 1, 1, none⟩ (.int .i64 k1) = w2 at R T hbel ⊢
  rw [rounds_succ]
  go_wp2_with fail
  refine (N2.out _).mono ?_
  rintro e w1 ⟨rfl, hb1⟩
  have R := R.later hb1
  have T := T.later hb1
  have hbel := later hbel hb1
  clear hb1
  have fz := T.thaw 2
  have z := T.cell 2 (.int .i64 0) rfl
  go_wp2_with fail
  have R := R.aside (w.heap.size + 1) 2 (by omega) (.int .i64 k2)
  have T := T.put 2 (.int .i64 k2)
  have hbel := hbel.setCell (p := ⟨w.heap.size + 1, 2, none⟩) (by show w.heap.size ≤ w.heap.size + 1; omega) (.int .i64 k2)
  clear fz z
  generalize w1.setCell ⟨w.heap.size + 1, 2, none⟩ (.int .i64 k2) = w2 at R T hbel ⊢
  rw [rounds_succ]
  go_wp2_with fail
  refine (N3.out _).mono ?_
  rintro e w1 ⟨rfl, hb1⟩
  have R := R.later hb1
  have T := T.later hb1
  have hbel := later hbel hb1
  clear hb1
  have fz := R.thaw
  have z0 := R.cell 0 (.int .i64 0) rfl
  have z1 := R.cell 1 (.int .i64 0) rfl
  have z2 := R.cell 2 (.int .i64 0) rfl
  have z3 := R.cell 3 (.int .i64 0) rfl
  have z4 := R.cell 4 (.int .i64 0) rfl
  have z5 := R.cell 5 (.string ⟨#[]⟩) rfl
  go_wp2_with fail
  have R := six_blk Tx.zero R
  have hbel := six_below w.heap.size Tx.zero hbel (Nat.le_refl _)
  clear fz z0 z1 z2 z3 z4 z5
  have z0 := R.cell 0 _ rfl
  have z1 := R.cell 1 _ rfl
  have z2 := R.cell 2 _ rfl
  have z3 := R.cell 3 _ rfl
  have z4 := R.cell 4 _ rfl
  have z5 := R.cell 5 _ rfl
  simp only [six, Tx.zero] at hbel z0 z1 z2 z3 z4 z5
  refine bodyPost_ret (v := retDec none) (by simp [results, Tryd.results15, go_sem, retDec, Tx.val, Tx.zero, z0, z1, z2, z3, z4, z5]) rfl ⟨rfl, hbel⟩

set_option maxHeartbeats 2000000 in
theorem rdecode_n4 (s : ByteArray) (a : UInt8) (r : List UInt8) (k0 : Nat) (r0 : List UInt8) (k1 : Nat) (r1 : List UInt8) (k2 : Nat) (r2 : List UInt8) (k3 : Nat) (r3 : List UInt8) (w : World) (hs : s.size ≤ maxLen) (he : s.data.toList = a :: r) (h0 : takeNum r 1099511627776 = some (k0, r0)) (h1 : takeNum r0 1099511627776 = some (k1, r1)) (h2 : takeNum r1 1099511627776 = some (k2, r2)) (h3 : takeNum r2 1099511627776 = some (k3, r3)) (h4 : takeNum r3 1099511627776 = none) :
    Calls Tryd.prog 15 #[.string s] w fun e w' => e = .returned (retDec none) ∧ Below w.heap.size w w' := by
  have hz : s.size = r.length + 1 := by
    have : s.data.toList.length = s.size := by simp
    rw [he] at this
    simp at this
    omega
  have hsb : (s.toList == ([] : List UInt8)) = false := by
    rw [ByteArray.toList_eq, he]
    rfl
  have S1 := str_from s 1 1 rfl (by omega)
  rw [he, List.drop_succ_cons, List.drop_zero] at S1
  have hl : r.length ≤ maxLen := by omega
  have N0 := Lib.hid (fun w => rtakenum_any ⟨r.toArray⟩ 1099511627776 w hl)
  simp only [] at N0
  rw [h0] at N0
  simp only [retNum] at N0
  have hl0 : r0.length ≤ maxLen := by
    have e := (takeNum_some _ _ _ _ h0).1
    have e2 := congrArg List.length e
    rw [List.length_append] at e2
    omega
  have N1 := Lib.hid (fun w => rtakenum_any ⟨r0.toArray⟩ 1099511627776 w hl0)
  simp only [] at N1
  rw [h1] at N1
  simp only [retNum] at N1
  have hl1 : r1.length ≤ maxLen := by
    have e := (takeNum_some _ _ _ _ h1).1
    have e2 := congrArg List.length e
    rw [List.length_append] at e2
    omega
  have N2 := Lib.hid (fun w => rtakenum_any ⟨r1.toArray⟩ 1099511627776 w hl1)
  simp only [] at N2
  rw [h2] at N2
  simp only [retNum] at N2
  have hl2 : r2.length ≤ maxLen := by
    have e := (takeNum_some _ _ _ _ h2).1
    have e2 := congrArg List.length e
    rw [List.length_append] at e2
    omega
  have N3 := Lib.hid (fun w => rtakenum_any ⟨r2.toArray⟩ 1099511627776 w hl2)
  simp only [] at N3
  rw [h3] at N3
  simp only [retNum] at N3
  have hl3 : r3.length ≤ maxLen := by
    have e := (takeNum_some _ _ _ _ h3).1
    have e2 := congrArg List.length e
    rw [List.length_append] at e2
    omega
  have N4 := Lib.hid (fun w => rtakenum_any ⟨r3.toArray⟩ 1099511627776 w hl3)
  simp only [] at N4
  rw [h4] at N4
  simp only [retNum] at N4
  obtain ⟨w0, hw0, hbel, R, T⟩ := rblocks w
  clear he hz h0 h1 h2 h3 h4
  unfold maxLen at hs
  go_enter Tryd.func15, Tryd.ntmps15
  go_wp2_with fail
  rw [← hw0]
  clear hw0
  refine wp_loop_rounds 6 ?_
  rw [rounds_succ]
  go_wp2_with fail
  refine (N0.out _).mono ?_
  rintro e w1 ⟨rfl, hb1⟩
  have R := R.later hb1
  have T := T.later hb1
  have hbel := later hbel hb1
  clear hb1
  have fz := T.thaw 0
  have z := T.cell 0 (.int .i64 0) rfl
  go_wp2_with fail
  have R := R.aside (w.heap.size + 1) 0 (by omega) (.int .i64 k0)
  have T := T.put 0 (.int .i64 k0)
  have hbel := hbel.setCell (p := ⟨w.heap.size + 1, 0, none⟩) (by show w.heap.size ≤ w.heap.size + 1; omega) (.int .i64 k0)
  clear fz z
  generalize w1.setCell ⟨w.heap.size + 1, 0, none⟩ (.int .i64 k0) = w2 at R T hbel ⊢
  rw [rounds_succ]
  go_wp2_with fail
  refine (N1.out _).mono ?_
  rintro e w1 ⟨rfl, hb1⟩
  have R := R.later hb1
  have T := T.later hb1
  have hbel := later hbel hb1
  clear hb1
  have fz := T.thaw 1
  have z := T.cell 1 (.int .i64 0) rfl
  go_wp2_with fail
  have R := R.aside (w.heap.size + 1) 1 (by omega) (.int .i64 k1)
  have T := T.put 1 (.int .i64 k1)
  have hbel := hbel.setCell (p := ⟨w.heap.size + 1, 1, none⟩) (by show w.heap.size ≤ w.heap.size + 1; omega) (.int .i64 k1)
  clear fz z
  generalize w1.setCell ⟨w.heap.size + 1, 1, none⟩ (.int .i64 k1) = w2 at R T hbel ⊢
  rw [rounds_succ]
  go_wp2_with fail
  refine (N2.out _).mono ?_
  rintro e w1 ⟨rfl, hb1⟩
  have R := R.later hb1
  have T := T.later hb1
  have hbel := later hbel hb1
  clear hb1
  have fz := T.thaw 2
  have z := T.cell 2 (.int .i64 0) rfl
  go_wp2_with fail
  have R := R.aside (w.heap.size + 1) 2 (by omega) (.int .i64 k2)
  have T := T.put 2 (.int .i64 k2)
  have hbel := hbel.setCell (p := ⟨w.heap.size + 1, 2, none⟩) (by show w.heap.size ≤ w.heap.size + 1; omega) (.int .i64 k2)
  clear fz z
  generalize w1.setCell ⟨w.heap.size + 1, 2, none⟩ (.int .i64 k2) = w2 at R T hbel ⊢
  rw [rounds_succ]
  go_wp2_with fail
  refine (N3.out _).mono ?_
  rintro e w1 ⟨rfl, hb1⟩
  have R := R.later hb1
  have T := T.later hb1
  have hbel := later hbel hb1
  clear hb1
  have fz := T.thaw 3
  have z := T.cell 3 (.int .i64 0) rfl
  go_wp2_with fail
  have R := R.aside (w.heap.size + 1) 3 (by omega) (.int .i64 k3)
  have T := T.put 3 (.int .i64 k3)
  have hbel := hbel.setCell (p := ⟨w.heap.size + 1, 3, none⟩) (by show w.heap.size ≤ w.heap.size + 1; omega) (.int .i64 k3)
  clear fz z
  generalize w1.setCell ⟨w.heap.size + 1, 3, none⟩ (.int .i64 k3) = w2 at R T hbel ⊢
  rw [rounds_succ]
  go_wp2_with fail
  refine (N4.out _).mono ?_
  rintro e w1 ⟨rfl, hb1⟩
  have R := R.later hb1
  have T := T.later hb1
  have hbel := later hbel hb1
  clear hb1
  have fz := R.thaw
  have z0 := R.cell 0 (.int .i64 0) rfl
  have z1 := R.cell 1 (.int .i64 0) rfl
  have z2 := R.cell 2 (.int .i64 0) rfl
  have z3 := R.cell 3 (.int .i64 0) rfl
  have z4 := R.cell 4 (.int .i64 0) rfl
  have z5 := R.cell 5 (.string ⟨#[]⟩) rfl
  go_wp2_with fail
  have R := six_blk Tx.zero R
  have hbel := six_below w.heap.size Tx.zero hbel (Nat.le_refl _)
  clear fz z0 z1 z2 z3 z4 z5
  have z0 := R.cell 0 _ rfl
  have z1 := R.cell 1 _ rfl
  have z2 := R.cell 2 _ rfl
  have z3 := R.cell 3 _ rfl
  have z4 := R.cell 4 _ rfl
  have z5 := R.cell 5 _ rfl
  simp only [six, Tx.zero] at hbel z0 z1 z2 z3 z4 z5
  refine bodyPost_ret (v := retDec none) (by simp [results, Tryd.results15, go_sem, retDec, Tx.val, Tx.zero, z0, z1, z2, z3, z4, z5]) rfl ⟨rfl, hbel⟩

end Go.Proofs.YtfhbcnomlgiciaaDoor.txn
