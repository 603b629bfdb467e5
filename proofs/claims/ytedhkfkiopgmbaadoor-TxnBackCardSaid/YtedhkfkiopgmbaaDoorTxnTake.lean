/- Layer 4 (txn: takeNumbers), by contract. -/
import Derived.Test.YtedhkfkiopgmbaaDoorTxnEnc
namespace Go.Proofs.YtedhkfkiopgmbaaDoor.txn
open Go.RowKit codec
set_option linter.unusedVariables false
set_option linter.unusedSimpArgs false

/-- Five numbers, one behind the other. -/
def take5 (s : List UInt8) : Option ((Nat × Nat × Nat × Nat × Nat) × List UInt8) :=
  (takeNum s 255).bind fun p0 => (takeNum p0.2 4294967295).bind fun p1 => (takeNum p1.2 1099511627776).bind fun p2 => (takeNum p2.2 1099511627776).bind fun p3 => (takeNum p3.2 1073741824).bind fun p4 =>
    some ((p0.1, p1.1, p2.1, p3.1, p4.1), p4.2)
def ret5 : Option ((Nat × Nat × Nat × Nat × Nat) × List UInt8) → Value
  | none => .tuple #[.agg #[.int .i64 0, .int .i64 0, .int .i64 0, .int .i64 0, .int .i64 0], .string ⟨#[]⟩, .bool false]
  | some ((a, b, c, d, e), r) => .tuple #[.agg #[.int .i64 a, .int .i64 b, .int .i64 c, .int .i64 d, .int .i64 e], .string ⟨r.toArray⟩, .bool true]

/-- A block and what it holds. -/
def Blk (w : World) (b : Nat) (l : List Value) : Prop := w.heap[b]? = some (.cells l.toArray 83 (0, 0))
theorem Blk.lt {w : World} {b : Nat} {l : List Value} (h : Blk w b l) : b < w.heap.size := by
  unfold Blk at h
  exact (Array.getElem?_eq_some_iff.1 h).1
theorem Blk.later {w w' : World} {b : Nat} {l : List Value} (h : Blk w b l) (k : Below w.heap.size w w') : Blk w' b l := (k.block b h.lt).trans h
theorem Blk.cell {w : World} {b : Nat} {l : List Value} (h : Blk w b l) (i : Nat) (v : Value) (hi : l[i]? = some v) : w.cell? ⟨b, i, none⟩ = some v := by
  unfold Blk at h
  simp only [World.cell?, h]
  simpa using hi
theorem Blk.thaw {w : World} {b : Nat} {l : List Value} (h : Blk w b l) (i : Nat) : w.frozen? ⟨b, i, none⟩ = false := by
  unfold Blk at h
  simp [World.frozen?, h]
theorem Blk.put {w : World} {b : Nat} {l : List Value} (h : Blk w b l) (i : Nat) (v : Value) : Blk (w.setCell ⟨b, i, none⟩ v) b (l.set i v) := by
  unfold Blk at h ⊢
  rw [heap_setCell_same w b i _ _ v h]
  simp
theorem Blk.aside {w : World} {b : Nat} {l : List Value} (h : Blk w b l) (b' i : Nat) (hb : b' ≠ b) (v : Value) : Blk (w.setCell ⟨b', i, none⟩ v) b l := by
  unfold Blk at h ⊢
  rw [Below.heap_setCell w _ v b (by simpa using hb.symm)]
  exact h

/-- Five numbers in a block. -/
def vals (l : List Int) : List Value := l.map (Value.int .i64)
/-- The two blocks that takeNumbers makes, both all 0. -/
theorem two_blocks (w : World) (hM : Most w) : ∃ w0, w0 = (w.alloc (.cells #[.int .i64 0, .int .i64 0, .int .i64 0, .int .i64 0, .int .i64 0] 83 (0, 0))).alloc (.cells #[.int .i64 0, .int .i64 0, .int .i64 0, .int .i64 0, .int .i64 0] 83 (0, 0)) ∧
    Below w.heap.size w w0 ∧ Most w0 ∧ Blk w0 w.heap.size (vals [0, 0, 0, 0, 0]) ∧ Blk w0 (w.heap.size + 1) (vals [0, 0, 0, 0, 0]) := by
  have hb : Below w.heap.size w ((w.alloc (.cells #[.int .i64 0, .int .i64 0, .int .i64 0, .int .i64 0, .int .i64 0] 83 (0, 0))).alloc (.cells #[.int .i64 0, .int .i64 0, .int .i64 0, .int .i64 0, .int .i64 0] 83 (0, 0))) := laid (laid (Below.refl _ _) _) _
  refine ⟨_, rfl, hb, hM.later hb, ?_, ?_⟩
  · show ((w.heap.push _).push _)[w.heap.size]? = _
    simp [vals, Array.getElem?_push]
  · have e : ∀ (a : Array Obj) (x y : Obj), ((a.push x).push y)[a.size + 1]? = some y := fun a x y => by
      have := Array.getElem?_push_size (xs := a.push x) (x := y)
      rwa [Array.size_push] at this
    exact e _ _ _

theorem most_put {w : World} (h : Most w) (b i : Nat) (hb : 0 < b) (v : Value) : Most (w.setCell ⟨b, i, none⟩ v) := by
  have e : ∀ j, (w.setCell ⟨b, i, none⟩ v).cell? ⟨0, j, none⟩ = w.cell? ⟨0, j, none⟩ := fun j =>
    World.cell?_of_block (w := w) (Below.heap_setCell w _ v 0 (by simp; omega))
  obtain ⟨h0, h1, h2, h3, h4, hz⟩ := h
  exact ⟨(e 0).trans h0, (e 1).trans h1, (e 2).trans h2, (e 3).trans h3, (e 4).trans h4, Nat.lt_of_lt_of_le hz ((Below.refl 0 w).setCell (p := ⟨b, i, none⟩) (Nat.zero_le _) v).size⟩

set_option maxHeartbeats 1000000 in
theorem take_0 (s : ByteArray) (w : World) (hM : Most w) (hs : s.size ≤ maxLen) (h0 : takeNum s.data.toList 255 = none) :
    Calls Tryd.prog 88 #[.string s] w fun e w' => e = .returned (ret5 none) ∧ Below w.heap.size w w' := by
  have N0 := Lib.hid (fun w => ctakenum_any s 255 w hs)
  rw [h0] at N0
  simp only [retNum] at N0
  obtain ⟨w0, hw0, hbel, hM0, R, T⟩ := two_blocks w hM
  clear h0
  go_enter Tryd.func88, Tryd.ntmps88
  go_wp2_with fail
  rw [← hw0]
  clear hw0
  refine wp_loop_rounds 6 ?_
  rw [rounds_succ]
  have m0 := hM0.1
  go_wp2_with fail
  refine (N0.out _).mono ?_
  rintro e w1 ⟨rfl, hb1⟩
  clear m0
  have hM0 := hM0.later hb1
  have R := R.later hb1
  have T := T.later hb1
  have hbel := later hbel hb1
  clear hb1
  have fz := R.thaw
  have z0 := R.cell 0 (.int .i64 0) rfl
  have z1 := R.cell 1 (.int .i64 0) rfl
  have z2 := R.cell 2 (.int .i64 0) rfl
  have z3 := R.cell 3 (.int .i64 0) rfl
  have z4 := R.cell 4 (.int .i64 0) rfl
  go_wp2_with fail
  have R := ((((R.put 0 (.int .i64 0)).put 1 (.int .i64 0)).put 2 (.int .i64 0)).put 3 (.int .i64 0)).put 4 (.int .i64 0)
  have hbel := ((((hbel.setCell (p := ⟨w.heap.size, 0, none⟩) (Nat.le_refl _) (.int .i64 0)).setCell (p := ⟨w.heap.size, 1, none⟩) (Nat.le_refl _) (.int .i64 0)).setCell (p := ⟨w.heap.size, 2, none⟩) (Nat.le_refl _) (.int .i64 0)).setCell (p := ⟨w.heap.size, 3, none⟩) (Nat.le_refl _) (.int .i64 0)).setCell (p := ⟨w.heap.size, 4, none⟩) (Nat.le_refl _) (.int .i64 0)
  clear fz z0 z1 z2 z3 z4
  have z0 := R.cell 0 (.int .i64 0) rfl
  have z1 := R.cell 1 (.int .i64 0) rfl
  have z2 := R.cell 2 (.int .i64 0) rfl
  have z3 := R.cell 3 (.int .i64 0) rfl
  have z4 := R.cell 4 (.int .i64 0) rfl
  refine bodyPost_ret (v := ret5 none) (by simp [results, Tryd.results88, go_sem, ret5, z0, z1, z2, z3, z4]) rfl ⟨rfl, hbel⟩

set_option maxHeartbeats 1000000 in
theorem take_1 (s : ByteArray) (k0 : Nat) (r0 : List UInt8) (w : World) (hM : Most w) (hs : s.size ≤ maxLen) (h0 : takeNum s.data.toList 255 = some (k0, r0)) (h1 : takeNum r0 4294967295 = none) :
    Calls Tryd.prog 88 #[.string s] w fun e w' => e = .returned (ret5 none) ∧ Below w.heap.size w w' := by
  have N0 := Lib.hid (fun w => ctakenum_any s 255 w hs)
  rw [h0] at N0
  simp only [retNum] at N0
  have hl0 : r0.length ≤ maxLen := by
    have e := (takeNum_some _ _ _ _ h0).1
    have e2 := congrArg List.length e
    rw [List.length_append] at e2
    have e3 : s.data.toList.length = s.size := by simp
    omega
  have N1 := Lib.hid (fun w => ctakenum_any ⟨r0.toArray⟩ 4294967295 w hl0)
  simp only [] at N1
  rw [h1] at N1
  simp only [retNum] at N1
  obtain ⟨w0, hw0, hbel, hM0, R, T⟩ := two_blocks w hM
  clear h0 h1
  go_enter Tryd.func88, Tryd.ntmps88
  go_wp2_with fail
  rw [← hw0]
  clear hw0
  refine wp_loop_rounds 6 ?_
  rw [rounds_succ]
  have m0 := hM0.1
  go_wp2_with fail
  refine (N0.out _).mono ?_
  rintro e w1 ⟨rfl, hb1⟩
  clear m0
  have hM0 := hM0.later hb1
  have R := R.later hb1
  have T := T.later hb1
  have hbel := later hbel hb1
  clear hb1
  have fz := T.thaw 0
  have z := T.cell 0 (.int .i64 0) rfl
  go_wp2_with fail
  have hM0 := most_put hM0 (w.heap.size + 1) 0 (by have := hM.2.2.2.2.2; omega) (.int .i64 k0)
  have R := R.aside (w.heap.size + 1) 0 (by omega) (.int .i64 k0)
  have T := T.put 0 (.int .i64 k0)
  have hbel := hbel.setCell (p := ⟨w.heap.size + 1, 0, none⟩) (by show w.heap.size ≤ w.heap.size + 1; omega) (.int .i64 k0)
  clear fz z
  generalize w1.setCell ⟨w.heap.size + 1, 0, none⟩ (.int .i64 k0) = w2 at R T hbel hM0 ⊢
  rw [rounds_succ]
  have m1 := hM0.2.1
  go_wp2_with fail
  refine (N1.out _).mono ?_
  rintro e w1 ⟨rfl, hb1⟩
  clear m1
  have hM0 := hM0.later hb1
  have R := R.later hb1
  have T := T.later hb1
  have hbel := later hbel hb1
  clear hb1
  have fz := R.thaw
  have z0 := R.cell 0 (.int .i64 0) rfl
  have z1 := R.cell 1 (.int .i64 0) rfl
  have z2 := R.cell 2 (.int .i64 0) rfl
  have z3 := R.cell 3 (.int .i64 0) rfl
  have z4 := R.cell 4 (.int .i64 0) rfl
  go_wp2_with fail
  have R := ((((R.put 0 (.int .i64 0)).put 1 (.int .i64 0)).put 2 (.int .i64 0)).put 3 (.int .i64 0)).put 4 (.int .i64 0)
  have hbel := ((((hbel.setCell (p := ⟨w.heap.size, 0, none⟩) (Nat.le_refl _) (.int .i64 0)).setCell (p := ⟨w.heap.size, 1, none⟩) (Nat.le_refl _) (.int .i64 0)).setCell (p := ⟨w.heap.size, 2, none⟩) (Nat.le_refl _) (.int .i64 0)).setCell (p := ⟨w.heap.size, 3, none⟩) (Nat.le_refl _) (.int .i64 0)).setCell (p := ⟨w.heap.size, 4, none⟩) (Nat.le_refl _) (.int .i64 0)
  clear fz z0 z1 z2 z3 z4
  have z0 := R.cell 0 (.int .i64 0) rfl
  have z1 := R.cell 1 (.int .i64 0) rfl
  have z2 := R.cell 2 (.int .i64 0) rfl
  have z3 := R.cell 3 (.int .i64 0) rfl
  have z4 := R.cell 4 (.int .i64 0) rfl
  refine bodyPost_ret (v := ret5 none) (by simp [results, Tryd.results88, go_sem, ret5, z0, z1, z2, z3, z4]) rfl ⟨rfl, hbel⟩

set_option maxHeartbeats 1000000 in
theorem take_2 (s : ByteArray) (k0 : Nat) (r0 : List UInt8) (k1 : Nat) (r1 : List UInt8) (w : World) (hM : Most w) (hs : s.size ≤ maxLen) (h0 : takeNum s.data.toList 255 = some (k0, r0)) (h1 : takeNum r0 4294967295 = some (k1, r1)) (h2 : takeNum r1 1099511627776 = none) :
    Calls Tryd.prog 88 #[.string s] w fun e w' => e = .returned (ret5 none) ∧ Below w.heap.size w w' := by
  have N0 := Lib.hid (fun w => ctakenum_any s 255 w hs)
  rw [h0] at N0
  simp only [retNum] at N0
  have hl0 : r0.length ≤ maxLen := by
    have e := (takeNum_some _ _ _ _ h0).1
    have e2 := congrArg List.length e
    rw [List.length_append] at e2
    have e3 : s.data.toList.length = s.size := by simp
    omega
  have N1 := Lib.hid (fun w => ctakenum_any ⟨r0.toArray⟩ 4294967295 w hl0)
  simp only [] at N1
  rw [h1] at N1
  simp only [retNum] at N1
  have hl1 : r1.length ≤ maxLen := by
    have e := (takeNum_some _ _ _ _ h1).1
    have e2 := congrArg List.length e
    rw [List.length_append] at e2
    omega
  have N2 := Lib.hid (fun w => ctakenum_any ⟨r1.toArray⟩ 1099511627776 w hl1)
  simp only [] at N2
  rw [h2] at N2
  simp only [retNum] at N2
  obtain ⟨w0, hw0, hbel, hM0, R, T⟩ := two_blocks w hM
  clear h0 h1 h2
  go_enter Tryd.func88, Tryd.ntmps88
  go_wp2_with fail
  rw [← hw0]
  clear hw0
  refine wp_loop_rounds 6 ?_
  rw [rounds_succ]
  have m0 := hM0.1
  go_wp2_with fail
  refine (N0.out _).mono ?_
  rintro e w1 ⟨rfl, hb1⟩
  clear m0
  have hM0 := hM0.later hb1
  have R := R.later hb1
  have T := T.later hb1
  have hbel := later hbel hb1
  clear hb1
  have fz := T.thaw 0
  have z := T.cell 0 (.int .i64 0) rfl
  go_wp2_with fail
  have hM0 := most_put hM0 (w.heap.size + 1) 0 (by have := hM.2.2.2.2.2; omega) (.int .i64 k0)
  have R := R.aside (w.heap.size + 1) 0 (by omega) (.int .i64 k0)
  have T := T.put 0 (.int .i64 k0)
  have hbel := hbel.setCell (p := ⟨w.heap.size + 1, 0, none⟩) (by show w.heap.size ≤ w.heap.size + 1; omega) (.int .i64 k0)
  clear fz z
  generalize w1.setCell ⟨w.heap.size + 1, 0, none⟩ (.int .i64 k0) = w2 at R T hbel hM0 ⊢
  rw [rounds_succ]
  have m1 := hM0.2.1
  go_wp2_with fail
  refine (N1.out _).mono ?_
  rintro e w1 ⟨rfl, hb1⟩
  clear m1
  have hM0 := hM0.later hb1
  have R := R.later hb1
  have T := T.later hb1
  have hbel := later hbel hb1
  clear hb1
  have fz := T.thaw 1
  have z := T.cell 1 (.int .i64 0) rfl
  go_wp2_with fail
  have hM0 := most_put hM0 (w.heap.size + 1) 1 (by have := hM.2.2.2.2.2; omega) (.int .i64 k1)
  have R := R.aside (w.heap.size + 1) 1 (by omega) (.int .i64 k1)
  have T := T.put 1 (.int .i64 k1)
  have hbel := hbel.setCell (p := ⟨w.heap.size + 1, 1, none⟩) (by show w.heap.size ≤ w.heap.size + 1; omega) (.int .i64 k1)
  clear fz z
  generalize w1.setCell ⟨w.heap.size + 1, 1, none⟩ (.int .i64 k1) = w2 at R T hbel hM0 ⊢
  rw [rounds_succ]
  have m2 := hM0.2.2.1
  go_wp2_with fail
  refine (N2.out _).mono ?_
  rintro e w1 ⟨rfl, hb1⟩
  clear m2
  have hM0 := hM0.later hb1
  have R := R.later hb1
  have T := T.later hb1
  have hbel := later hbel hb1
  clear hb1
  have fz := R.thaw
  have z0 := R.cell 0 (.int .i64 0) rfl
  have z1 := R.cell 1 (.int .i64 0) rfl
  have z2 := R.cell 2 (.int .i64 0) rfl
  have z3 := R.cell 3 (.int .i64 0) rfl
  have z4 := R.cell 4 (.int .i64 0) rfl
  go_wp2_with fail
  have R := ((((R.put 0 (.int .i64 0)).put 1 (.int .i64 0)).put 2 (.int .i64 0)).put 3 (.int .i64 0)).put 4 (.int .i64 0)
  have hbel := ((((hbel.setCell (p := ⟨w.heap.size, 0, none⟩) (Nat.le_refl _) (.int .i64 0)).setCell (p := ⟨w.heap.size, 1, none⟩) (Nat.le_refl _) (.int .i64 0)).setCell (p := ⟨w.heap.size, 2, none⟩) (Nat.le_refl _) (.int .i64 0)).setCell (p := ⟨w.heap.size, 3, none⟩) (Nat.le_refl _) (.int .i64 0)).setCell (p := ⟨w.heap.size, 4, none⟩) (Nat.le_refl _) (.int .i64 0)
  clear fz z0 z1 z2 z3 z4
  have z0 := R.cell 0 (.int .i64 0) rfl
  have z1 := R.cell 1 (.int .i64 0) rfl
  have z2 := R.cell 2 (.int .i64 0) rfl
  have z3 := R.cell 3 (.int .i64 0) rfl
  have z4 := R.cell 4 (.int .i64 0) rfl
  refine bodyPost_ret (v := ret5 none) (by simp [results, Tryd.results88, go_sem, ret5, z0, z1, z2, z3, z4]) rfl ⟨rfl, hbel⟩

set_option maxHeartbeats 1000000 in
theorem take_3 (s : ByteArray) (k0 : Nat) (r0 : List UInt8) (k1 : Nat) (r1 : List UInt8) (k2 : Nat) (r2 : List UInt8) (w : World) (hM : Most w) (hs : s.size ≤ maxLen) (h0 : takeNum s.data.toList 255 = some (k0, r0)) (h1 : takeNum r0 4294967295 = some (k1, r1)) (h2 : takeNum r1 1099511627776 = some (k2, r2)) (h3 : takeNum r2 1099511627776 = none) :
    Calls Tryd.prog 88 #[.string s] w fun e w' => e = .returned (ret5 none) ∧ Below w.heap.size w w' := by
  have N0 := Lib.hid (fun w => ctakenum_any s 255 w hs)
  rw [h0] at N0
  simp only [retNum] at N0
  have hl0 : r0.length ≤ maxLen := by
    have e := (takeNum_some _ _ _ _ h0).1
    have e2 := congrArg List.length e
    rw [List.length_append] at e2
    have e3 : s.data.toList.length = s.size := by simp
    omega
  have N1 := Lib.hid (fun w => ctakenum_any ⟨r0.toArray⟩ 4294967295 w hl0)
  simp only [] at N1
  rw [h1] at N1
  simp only [retNum] at N1
  have hl1 : r1.length ≤ maxLen := by
    have e := (takeNum_some _ _ _ _ h1).1
    have e2 := congrArg List.length e
    rw [List.length_append] at e2
    omega
  have N2 := Lib.hid (fun w => ctakenum_any ⟨r1.toArray⟩ 1099511627776 w hl1)
  simp only [] at N2
  rw [h2] at N2
  simp only [retNum] at N2
  have hl2 : r2.length ≤ maxLen := by
    have e := (takeNum_some _ _ _ _ h2).1
    have e2 := congrArg List.length e
    rw [List.length_append] at e2
    omega
  have N3 := Lib.hid (fun w => ctakenum_any ⟨r2.toArray⟩ 1099511627776 w hl2)
  simp only [] at N3
  rw [h3] at N3
  simp only [retNum] at N3
  obtain ⟨w0, hw0, hbel, hM0, R, T⟩ := two_blocks w hM
  clear h0 h1 h2 h3
  go_enter Tryd.func88, Tryd.ntmps88
  go_wp2_with fail
  rw [← hw0]
  clear hw0
  refine wp_loop_rounds 6 ?_
  rw [rounds_succ]
  have m0 := hM0.1
  go_wp2_with fail
  refine (N0.out _).mono ?_
  rintro e w1 ⟨rfl, hb1⟩
  clear m0
  have hM0 := hM0.later hb1
  have R := R.later hb1
  have T := T.later hb1
  have hbel := later hbel hb1
  clear hb1
  have fz := T.thaw 0
  have z := T.cell 0 (.int .i64 0) rfl
  go_wp2_with fail
  have hM0 := most_put hM0 (w.heap.size + 1) 0 (by have := hM.2.2.2.2.2; omega) (.int .i64 k0)
  have R := R.aside (w.heap.size + 1) 0 (by omega) (.int .i64 k0)
  have T := T.put 0 (.int .i64 k0)
  have hbel := hbel.setCell (p := ⟨w.heap.size + 1, 0, none⟩) (by show w.heap.size ≤ w.heap.size + 1; omega) (.int .i64 k0)
  clear fz z
  generalize w1.setCell ⟨w.heap.size + 1, 0, none⟩ (.int .i64 k0) = w2 at R T hbel hM0 ⊢
  rw [rounds_succ]
  have m1 := hM0.2.1
  go_wp2_with fail
  refine (N1.out _).mono ?_
  rintro e w1 ⟨rfl, hb1⟩
  clear m1
  have hM0 := hM0.later hb1
  have R := R.later hb1
  have T := T.later hb1
  have hbel := later hbel hb1
  clear hb1
  have fz := T.thaw 1
  have z := T.cell 1 (.int .i64 0) rfl
  go_wp2_with fail
  have hM0 := most_put hM0 (w.heap.size + 1) 1 (by have := hM.2.2.2.2.2; omega) (.int .i64 k1)
  have R := R.aside (w.heap.size + 1) 1 (by omega) (.int .i64 k1)
  have T := T.put 1 (.int .i64 k1)
  have hbel := hbel.setCell (p := ⟨w.heap.size + 1, 1, none⟩) (by show w.heap.size ≤ w.heap.size + 1; omega) (.int .i64 k1)
  clear fz z
  generalize w1.setCell ⟨w.heap.size + 1, 1, none⟩ (.int .i64 k1) = w2 at R T hbel hM0 ⊢
  rw [rounds_succ]
  have m2 := hM0.2.2.1
  go_wp2_with fail
  refine (N2.out _).mono ?_
  rintro e w1 ⟨rfl, hb1⟩
  clear m2
  have hM0 := hM0.later hb1
  have R := R.later hb1
  have T := T.later hb1
  have hbel := later hbel hb1
  clear hb1
  have fz := T.thaw 2
  have z := T.cell 2 (.int .i64 0) rfl
  go_wp2_with fail
  have hM0 := most_put hM0 (w.heap.size + 1) 2 (by have := hM.2.2.2.2.2; omega) (.int .i64 k2)
  have R := R.aside (w.heap.size + 1) 2 (by omega) (.int .i64 k2)
  have T := T.put 2 (.int .i64 k2)
  have hbel := hbel.setCell (p := ⟨w.heap.size + 1, 2, none⟩) (by show w.heap.size ≤ w.heap.size + 1; omega) (.int .i64 k2)
  clear fz z
  generalize w1.setCell ⟨w.heap.size + 1, 2, none⟩ (.int .i64 k2) = w2 at R T hbel hM0 ⊢
  rw [rounds_succ]
  have m3 := hM0.2.2.2.1
  go_wp2_with fail
  refine (N3.out _).mono ?_
  rintro e w1 ⟨rfl, hb1⟩
  clear m3
  have hM0 := hM0.later hb1
  have R := R.later hb1
  have T := T.later hb1
  have hbel := later hbel hb1
  clear hb1
  have fz := R.thaw
  have z0 := R.cell 0 (.int .i64 0) rfl
  have z1 := R.cell 1 (.int .i64 0) rfl
  have z2 := R.cell 2 (.int .i64 0) rfl
  have z3 := R.cell 3 (.int .i64 0) rfl
  have z4 := R.cell 4 (.int .i64 0) rfl
  go_wp2_with fail
  have R := ((((R.put 0 (.int .i64 0)).put 1 (.int .i64 0)).put 2 (.int .i64 0)).put 3 (.int .i64 0)).put 4 (.int .i64 0)
  have hbel := ((((hbel.setCell (p := ⟨w.heap.size, 0, none⟩) (Nat.le_refl _) (.int .i64 0)).setCell (p := ⟨w.heap.size, 1, none⟩) (Nat.le_refl _) (.int .i64 0)).setCell (p := ⟨w.heap.size, 2, none⟩) (Nat.le_refl _) (.int .i64 0)).setCell (p := ⟨w.heap.size, 3, none⟩) (Nat.le_refl _) (.int .i64 0)).setCell (p := ⟨w.heap.size, 4, none⟩) (Nat.le_refl _) (.int .i64 0)
  clear fz z0 z1 z2 z3 z4
  have z0 := R.cell 0 (.int .i64 0) rfl
  have z1 := R.cell 1 (.int .i64 0) rfl
  have z2 := R.cell 2 (.int .i64 0) rfl
  have z3 := R.cell 3 (.int .i64 0) rfl
  have z4 := R.cell 4 (.int .i64 0) rfl
  refine bodyPost_ret (v := ret5 none) (by simp [results, Tryd.results88, go_sem, ret5, z0, z1, z2, z3, z4]) rfl ⟨rfl, hbel⟩

set_option maxHeartbeats 1000000 in
theorem take_4 (s : ByteArray) (k0 : Nat) (r0 : List UInt8) (k1 : Nat) (r1 : List UInt8) (k2 : Nat) (r2 : List UInt8) (k3 : Nat) (r3 : List UInt8) (w : World) (hM : Most w) (hs : s.size ≤ maxLen) (h0 : takeNum s.data.toList 255 = some (k0, r0)) (h1 : takeNum r0 4294967295 = some (k1, r1)) (h2 : takeNum r1 1099511627776 = some (k2, r2)) (h3 : takeNum r2 1099511627776 = some (k3, r3)) (h4 : takeNum r3 1073741824 = none) :
    Calls Tryd.prog 88 #[.string s] w fun e w' => e = .returned (ret5 none) ∧ Below w.heap.size w w' := by
  have N0 := Lib.hid (fun w => ctakenum_any s 255 w hs)
  rw [h0] at N0
  simp only [retNum] at N0
  have hl0 : r0.length ≤ maxLen := by
    have e := (takeNum_some _ _ _ _ h0).1
    have e2 := congrArg List.length e
    rw [List.length_append] at e2
    have e3 : s.data.toList.length = s.size := by simp
    omega
  have N1 := Lib.hid (fun w => ctakenum_any ⟨r0.toArray⟩ 4294967295 w hl0)
  simp only [] at N1
  rw [h1] at N1
  simp only [retNum] at N1
  have hl1 : r1.length ≤ maxLen := by
    have e := (takeNum_some _ _ _ _ h1).1
    have e2 := congrArg List.length e
    rw [List.length_append] at e2
    omega
  have N2 := Lib.hid (fun w => ctakenum_any ⟨r1.toArray⟩ 1099511627776 w hl1)
  simp only [] at N2
  rw [h2] at N2
  simp only [retNum] at N2
  have hl2 : r2.length ≤ maxLen := by
    have e := (takeNum_some _ _ _ _ h2).1
    have e2 := congrArg List.length e
    rw [List.length_append] at e2
    omega
  have N3 := Lib.hid (fun w => ctakenum_any ⟨r2.toArray⟩ 1099511627776 w hl2)
  simp only [] at N3
  rw [h3] at N3
  simp only [retNum] at N3
  have hl3 : r3.length ≤ maxLen := by
    have e := (takeNum_some _ _ _ _ h3).1
    have e2 := congrArg List.length e
    rw [List.length_append] at e2
    omega
  have N4 := Lib.hid (fun w => ctakenum_any ⟨r3.toArray⟩ 1073741824 w hl3)
  simp only [] at N4
  rw [h4] at N4
  simp only [retNum] at N4
  obtain ⟨w0, hw0, hbel, hM0, R, T⟩ := two_blocks w hM
  clear h0 h1 h2 h3 h4
  go_enter Tryd.func88, Tryd.ntmps88
  go_wp2_with fail
  rw [← hw0]
  clear hw0
  refine wp_loop_rounds 6 ?_
  rw [rounds_succ]
  have m0 := hM0.1
  go_wp2_with fail
  refine (N0.out _).mono ?_
  rintro e w1 ⟨rfl, hb1⟩
  clear m0
  have hM0 := hM0.later hb1
  have R := R.later hb1
  have T := T.later hb1
  have hbel := later hbel hb1
  clear hb1
  have fz := T.thaw 0
  have z := T.cell 0 (.int .i64 0) rfl
  go_wp2_with fail
  have hM0 := most_put hM0 (w.heap.size + 1) 0 (by have := hM.2.2.2.2.2; omega) (.int .i64 k0)
  have R := R.aside (w.heap.size + 1) 0 (by omega) (.int .i64 k0)
  have T := T.put 0 (.int .i64 k0)
  have hbel := hbel.setCell (p := ⟨w.heap.size + 1, 0, none⟩) (by show w.heap.size ≤ w.heap.size + 1; omega) (.int .i64 k0)
  clear fz z
  generalize w1.setCell ⟨w.heap.size + 1, 0, none⟩ (.int .i64 k0) = w2 at R T hbel hM0 ⊢
  rw [rounds_succ]
  have m1 := hM0.2.1
  go_wp2_with fail
  refine (N1.out _).mono ?_
  rintro e w1 ⟨rfl, hb1⟩
  clear m1
  have hM0 := hM0.later hb1
  have R := R.later hb1
  have T := T.later hb1
  have hbel := later hbel hb1
  clear hb1
  have fz := T.thaw 1
  have z := T.cell 1 (.int .i64 0) rfl
  go_wp2_with fail
  have hM0 := most_put hM0 (w.heap.size + 1) 1 (by have := hM.2.2.2.2.2; omega) (.int .i64 k1)
  have R := R.aside (w.heap.size + 1) 1 (by omega) (.int .i64 k1)
  have T := T.put 1 (.int .i64 k1)
  have hbel := hbel.setCell (p := ⟨w.heap.size + 1, 1, none⟩) (by show w.heap.size ≤ w.heap.size + 1; omega) (.int .i64 k1)
  clear fz z
  generalize w1.setCell ⟨w.heap.size + 1, 1, none⟩ (.int .i64 k1) = w2 at R T hbel hM0 ⊢
  rw [rounds_succ]
  have m2 := hM0.2.2.1
  go_wp2_with fail
  refine (N2.out _).mono ?_
  rintro e w1 ⟨rfl, hb1⟩
  clear m2
  have hM0 := hM0.later hb1
  have R := R.later hb1
  have T := T.later hb1
  have hbel := later hbel hb1
  clear hb1
  have fz := T.thaw 2
  have z := T.cell 2 (.int .i64 0) rfl
  go_wp2_with fail
  have hM0 := most_put hM0 (w.heap.size + 1) 2 (by have := hM.2.2.2.2.2; omega) (.int .i64 k2)
  have R := R.aside (w.heap.size + 1) 2 (by omega) (.int .i64 k2)
  have T := T.put 2 (.int .i64 k2)
  have hbel := hbel.setCell (p := ⟨w.heap.size + 1, 2, none⟩) (by show w.heap.size ≤ w.heap.size + 1; omega) (.int .i64 k2)
  clear fz z
  generalize w1.setCell ⟨w.heap.size + 1, 2, none⟩ (.int .i64 k2) = w2 at R T hbel hM0 ⊢
  rw [rounds_succ]
  have m3 := hM0.2.2.2.1
  go_wp2_with fail
  refine (N3.out _).mono ?_
  rintro e w1 ⟨rfl, hb1⟩
  clear m3
  have hM0 := hM0.later hb1
  have R := R.later hb1
  have T := T.later hb1
  have hbel := later hbel hb1
  clear hb1
  have fz := T.thaw 3
  have z := T.cell 3 (.int .i64 0) rfl
  go_wp2_with fail
  have hM0 := most_put hM0 (w.heap.size + 1) 3 (by have := hM.2.2.2.2.2; omega) (.int .i64 k3)
  have R := R.aside (w.heap.size + 1) 3 (by omega) (.int .i64 k3)
  have T := T.put 3 (.int .i64 k3)
  have hbel := hbel.setCell (p := ⟨w.heap.size + 1, 3, none⟩) (by show w.heap.size ≤ w.heap.size + 1; omega) (.int .i64 k3)
  clear fz z
  generalize w1.setCell ⟨w.heap.size + 1, 3, none⟩ (.int .i64 k3) = w2 at R T hbel hM0 ⊢
  rw [rounds_succ]
  have m4 := hM0.2.2.2.2.1
  go_wp2_with fail
  refine (N4.out _).mono ?_
  rintro e w1 ⟨rfl, hb1⟩
  clear m4
  have hM0 := hM0.later hb1
  have R := R.later hb1
  have T := T.later hb1
  have hbel := later hbel hb1
  clear hb1
  have fz := R.thaw
  have z0 := R.cell 0 (.int .i64 0) rfl
  have z1 := R.cell 1 (.int .i64 0) rfl
  have z2 := R.cell 2 (.int .i64 0) rfl
  have z3 := R.cell 3 (.int .i64 0) rfl
  have z4 := R.cell 4 (.int .i64 0) rfl
  go_wp2_with fail
  have R := ((((R.put 0 (.int .i64 0)).put 1 (.int .i64 0)).put 2 (.int .i64 0)).put 3 (.int .i64 0)).put 4 (.int .i64 0)
  have hbel := ((((hbel.setCell (p := ⟨w.heap.size, 0, none⟩) (Nat.le_refl _) (.int .i64 0)).setCell (p := ⟨w.heap.size, 1, none⟩) (Nat.le_refl _) (.int .i64 0)).setCell (p := ⟨w.heap.size, 2, none⟩) (Nat.le_refl _) (.int .i64 0)).setCell (p := ⟨w.heap.size, 3, none⟩) (Nat.le_refl _) (.int .i64 0)).setCell (p := ⟨w.heap.size, 4, none⟩) (Nat.le_refl _) (.int .i64 0)
  clear fz z0 z1 z2 z3 z4
  have z0 := R.cell 0 (.int .i64 0) rfl
  have z1 := R.cell 1 (.int .i64 0) rfl
  have z2 := R.cell 2 (.int .i64 0) rfl
  have z3 := R.cell 3 (.int .i64 0) rfl
  have z4 := R.cell 4 (.int .i64 0) rfl
  refine bodyPost_ret (v := ret5 none) (by simp [results, Tryd.results88, go_sem, ret5, z0, z1, z2, z3, z4]) rfl ⟨rfl, hbel⟩

set_option maxHeartbeats 1000000 in
theorem take_5 (s : ByteArray) (k0 : Nat) (r0 : List UInt8) (k1 : Nat) (r1 : List UInt8) (k2 : Nat) (r2 : List UInt8) (k3 : Nat) (r3 : List UInt8) (k4 : Nat) (r4 : List UInt8) (w : World) (hM : Most w) (hs : s.size ≤ maxLen) (h0 : takeNum s.data.toList 255 = some (k0, r0)) (h1 : takeNum r0 4294967295 = some (k1, r1)) (h2 : takeNum r1 1099511627776 = some (k2, r2)) (h3 : takeNum r2 1099511627776 = some (k3, r3)) (h4 : takeNum r3 1073741824 = some (k4, r4)) :
    Calls Tryd.prog 88 #[.string s] w fun e w' => e = .returned (ret5 (some ((k0, k1, k2, k3, k4), r4))) ∧ Below w.heap.size w w' := by
  have N0 := Lib.hid (fun w => ctakenum_any s 255 w hs)
  rw [h0] at N0
  simp only [retNum] at N0
  have hl0 : r0.length ≤ maxLen := by
    have e := (takeNum_some _ _ _ _ h0).1
    have e2 := congrArg List.length e
    rw [List.length_append] at e2
    have e3 : s.data.toList.length = s.size := by simp
    omega
  have N1 := Lib.hid (fun w => ctakenum_any ⟨r0.toArray⟩ 4294967295 w hl0)
  simp only [] at N1
  rw [h1] at N1
  simp only [retNum] at N1
  have hl1 : r1.length ≤ maxLen := by
    have e := (takeNum_some _ _ _ _ h1).1
    have e2 := congrArg List.length e
    rw [List.length_append] at e2
    omega
  have N2 := Lib.hid (fun w => ctakenum_any ⟨r1.toArray⟩ 1099511627776 w hl1)
  simp only [] at N2
  rw [h2] at N2
  simp only [retNum] at N2
  have hl2 : r2.length ≤ maxLen := by
    have e := (takeNum_some _ _ _ _ h2).1
    have e2 := congrArg List.length e
    rw [List.length_append] at e2
    omega
  have N3 := Lib.hid (fun w => ctakenum_any ⟨r2.toArray⟩ 1099511627776 w hl2)
  simp only [] at N3
  rw [h3] at N3
  simp only [retNum] at N3
  have hl3 : r3.length ≤ maxLen := by
    have e := (takeNum_some _ _ _ _ h3).1
    have e2 := congrArg List.length e
    rw [List.length_append] at e2
    omega
  have N4 := Lib.hid (fun w => ctakenum_any ⟨r3.toArray⟩ 1073741824 w hl3)
  simp only [] at N4
  rw [h4] at N4
  simp only [retNum] at N4
  obtain ⟨w0, hw0, hbel, hM0, R, T⟩ := two_blocks w hM
  clear h0 h1 h2 h3 h4
  go_enter Tryd.func88, Tryd.ntmps88
  go_wp2_with fail
  rw [← hw0]
  clear hw0
  refine wp_loop_rounds 6 ?_
  rw [rounds_succ]
  have m0 := hM0.1
  go_wp2_with fail
  refine (N0.out _).mono ?_
  rintro e w1 ⟨rfl, hb1⟩
  clear m0
  have hM0 := hM0.later hb1
  have R := R.later hb1
  have T := T.later hb1
  have hbel := later hbel hb1
  clear hb1
  have fz := T.thaw 0
  have z := T.cell 0 (.int .i64 0) rfl
  go_wp2_with fail
  have hM0 := most_put hM0 (w.heap.size + 1) 0 (by have := hM.2.2.2.2.2; omega) (.int .i64 k0)
  have R := R.aside (w.heap.size + 1) 0 (by omega) (.int .i64 k0)
  have T := T.put 0 (.int .i64 k0)
  have hbel := hbel.setCell (p := ⟨w.heap.size + 1, 0, none⟩) (by show w.heap.size ≤ w.heap.size + 1; omega) (.int .i64 k0)
  clear fz z
  generalize w1.setCell ⟨w.heap.size + 1, 0, none⟩ (.int .i64 k0) = w2 at R T hbel hM0 ⊢
  rw [rounds_succ]
  have m1 := hM0.2.1
  go_wp2_with fail
  refine (N1.out _).mono ?_
  rintro e w1 ⟨rfl, hb1⟩
  clear m1
  have hM0 := hM0.later hb1
  have R := R.later hb1
  have T := T.later hb1
  have hbel := later hbel hb1
  clear hb1
  have fz := T.thaw 1
  have z := T.cell 1 (.int .i64 0) rfl
  go_wp2_with fail
  have hM0 := most_put hM0 (w.heap.size + 1) 1 (by have := hM.2.2.2.2.2; omega) (.int .i64 k1)
  have R := R.aside (w.heap.size + 1) 1 (by omega) (.int .i64 k1)
  have T := T.put 1 (.int .i64 k1)
  have hbel := hbel.setCell (p := ⟨w.heap.size + 1, 1, none⟩) (by show w.heap.size ≤ w.heap.size + 1; omega) (.int .i64 k1)
  clear fz z
  generalize w1.setCell ⟨w.heap.size + 1, 1, none⟩ (.int .i64 k1) = w2 at R T hbel hM0 ⊢
  rw [rounds_succ]
  have m2 := hM0.2.2.1
  go_wp2_with fail
  refine (N2.out _).mono ?_
  rintro e w1 ⟨rfl, hb1⟩
  clear m2
  have hM0 := hM0.later hb1
  have R := R.later hb1
  have T := T.later hb1
  have hbel := later hbel hb1
  clear hb1
  have fz := T.thaw 2
  have z := T.cell 2 (.int .i64 0) rfl
  go_wp2_with fail
  have hM0 := most_put hM0 (w.heap.size + 1) 2 (by have := hM.2.2.2.2.2; omega) (.int .i64 k2)
  have R := R.aside (w.heap.size + 1) 2 (by omega) (.int .i64 k2)
  have T := T.put 2 (.int .i64 k2)
  have hbel := hbel.setCell (p := ⟨w.heap.size + 1, 2, none⟩) (by show w.heap.size ≤ w.heap.size + 1; omega) (.int .i64 k2)
  clear fz z
  generalize w1.setCell ⟨w.heap.size + 1, 2, none⟩ (.int .i64 k2) = w2 at R T hbel hM0 ⊢
  rw [rounds_succ]
  have m3 := hM0.2.2.2.1
  go_wp2_with fail
  refine (N3.out _).mono ?_
  rintro e w1 ⟨rfl, hb1⟩
  clear m3
  have hM0 := hM0.later hb1
  have R := R.later hb1
  have T := T.later hb1
  have hbel := later hbel hb1
  clear hb1
  have fz := T.thaw 3
  have z := T.cell 3 (.int .i64 0) rfl
  go_wp2_with fail
  have hM0 := most_put hM0 (w.heap.size + 1) 3 (by have := hM.2.2.2.2.2; omega) (.int .i64 k3)
  have R := R.aside (w.heap.size + 1) 3 (by omega) (.int .i64 k3)
  have T := T.put 3 (.int .i64 k3)
  have hbel := hbel.setCell (p := ⟨w.heap.size + 1, 3, none⟩) (by show w.heap.size ≤ w.heap.size + 1; omega) (.int .i64 k3)
  clear fz z
  generalize w1.setCell ⟨w.heap.size + 1, 3, none⟩ (.int .i64 k3) = w2 at R T hbel hM0 ⊢
  rw [rounds_succ]
  have m4 := hM0.2.2.2.2.1
  go_wp2_with fail
  refine (N4.out _).mono ?_
  rintro e w1 ⟨rfl, hb1⟩
  clear m4
  have hM0 := hM0.later hb1
  have R := R.later hb1
  have T := T.later hb1
  have hbel := later hbel hb1
  clear hb1
  have fz := T.thaw 4
  have z := T.cell 4 (.int .i64 0) rfl
  go_wp2_with fail
  have hM0 := most_put hM0 (w.heap.size + 1) 4 (by have := hM.2.2.2.2.2; omega) (.int .i64 k4)
  have R := R.aside (w.heap.size + 1) 4 (by omega) (.int .i64 k4)
  have T := T.put 4 (.int .i64 k4)
  have hbel := hbel.setCell (p := ⟨w.heap.size + 1, 4, none⟩) (by show w.heap.size ≤ w.heap.size + 1; omega) (.int .i64 k4)
  clear fz z
  generalize w1.setCell ⟨w.heap.size + 1, 4, none⟩ (.int .i64 k4) = w2 at R T hbel hM0 ⊢
  rw [rounds_succ]
  have fz := R.thaw
  have z0 := R.cell 0 (.int .i64 0) rfl
  have z1 := R.cell 1 (.int .i64 0) rfl
  have z2 := R.cell 2 (.int .i64 0) rfl
  have z3 := R.cell 3 (.int .i64 0) rfl
  have z4 := R.cell 4 (.int .i64 0) rfl
  have t0 := T.cell 0 (.int .i64 k0) rfl
  have t1 := T.cell 1 (.int .i64 k1) rfl
  have t2 := T.cell 2 (.int .i64 k2) rfl
  have t3 := T.cell 3 (.int .i64 k3) rfl
  have t4 := T.cell 4 (.int .i64 k4) rfl
  go_wp2_with fail
  have R := ((((R.put 0 (.int .i64 k0)).put 1 (.int .i64 k1)).put 2 (.int .i64 k2)).put 3 (.int .i64 k3)).put 4 (.int .i64 k4)
  have hbel := ((((hbel.setCell (p := ⟨w.heap.size, 0, none⟩) (Nat.le_refl _) (.int .i64 k0)).setCell (p := ⟨w.heap.size, 1, none⟩) (Nat.le_refl _) (.int .i64 k1)).setCell (p := ⟨w.heap.size, 2, none⟩) (Nat.le_refl _) (.int .i64 k2)).setCell (p := ⟨w.heap.size, 3, none⟩) (Nat.le_refl _) (.int .i64 k3)).setCell (p := ⟨w.heap.size, 4, none⟩) (Nat.le_refl _) (.int .i64 k4)
  clear fz z0 z1 z2 z3 z4 t0 t1 t2 t3 t4
  have z0 := R.cell 0 (.int .i64 k0) rfl
  have z1 := R.cell 1 (.int .i64 k1) rfl
  have z2 := R.cell 2 (.int .i64 k2) rfl
  have z3 := R.cell 3 (.int .i64 k3) rfl
  have z4 := R.cell 4 (.int .i64 k4) rfl
  refine bodyPost_ret (v := ret5 (some ((k0, k1, k2, k3, k4), r4))) (by simp [results, Tryd.results88, go_sem, ret5, z0, z1, z2, z3, z4]) rfl ⟨rfl, hbel⟩

theorem take5_any (s : ByteArray) (w : World) (hM : Most w) (hs : s.size ≤ maxLen) :
    Calls Tryd.prog 88 #[.string s] w fun e w' => e = .returned (ret5 (take5 s.data.toList)) ∧ Below w.heap.size w w' := by
  unfold take5
  rcases h0 : takeNum s.data.toList 255 with _ | ⟨k0, r0⟩
  · exact take_0 s w hM hs h0
  simp only [Option.bind_some]
  rcases h1 : takeNum r0 4294967295 with _ | ⟨k1, r1⟩
  · exact take_1 s k0 r0 w hM hs h0 h1
  simp only [Option.bind_some]
  rcases h2 : takeNum r1 1099511627776 with _ | ⟨k2, r2⟩
  · exact take_2 s k0 r0 k1 r1 w hM hs h0 h1 h2
  simp only [Option.bind_some]
  rcases h3 : takeNum r2 1099511627776 with _ | ⟨k3, r3⟩
  · exact take_3 s k0 r0 k1 r1 k2 r2 w hM hs h0 h1 h2 h3
  simp only [Option.bind_some]
  rcases h4 : takeNum r3 1073741824 with _ | ⟨k4, r4⟩
  · exact take_4 s k0 r0 k1 r1 k2 r2 k3 r3 w hM hs h0 h1 h2 h3 h4
  exact take_5 s k0 r0 k1 r1 k2 r2 k3 r3 k4 r4 w hM hs h0 h1 h2 h3 h4
end Go.Proofs.YtedhkfkiopgmbaaDoor.txn
