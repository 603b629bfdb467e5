/- Layer 4 (txn: Decode), by contract. -/
import Derived.Test.YtedhkfkiopgmbaaDoorTxnTake
namespace Go.Proofs.YtedhkfkiopgmbaaDoor.txn
open Go.RowKit codec
set_option linter.unusedVariables false
set_option linter.unusedSimpArgs false

/-- What stands behind the first byte, where it is 1. -/
def cut1 : List UInt8 → Option (List UInt8)
  | [] => none
  | b :: r => if b = 1 then some r else none

/-- A block of a transaction, and what it holds. -/
def TBlk (w : World) (b : Nat) (l : List Value) : Prop := w.heap[b]? = some (.cells l.toArray 28 (0, 0))
theorem TBlk.lt {w : World} {b : Nat} {l : List Value} (h : TBlk w b l) : b < w.heap.size := by
  unfold TBlk at h
  exact (Array.getElem?_eq_some_iff.1 h).1
theorem TBlk.later {w w' : World} {b : Nat} {l : List Value} (h : TBlk w b l) (k : Below w.heap.size w w') : TBlk w' b l := (k.block b h.lt).trans h
theorem TBlk.cell {w : World} {b : Nat} {l : List Value} (h : TBlk w b l) (i : Nat) (v : Value) (hi : l[i]? = some v) : w.cell? ⟨b, i, none⟩ = some v := by
  unfold TBlk at h
  simp only [World.cell?, h]
  simpa using hi
theorem TBlk.thaw {w : World} {b : Nat} {l : List Value} (h : TBlk w b l) (i : Nat) : w.frozen? ⟨b, i, none⟩ = false := by
  unfold TBlk at h
  simp [World.frozen?, h]
theorem TBlk.put {w : World} {b : Nat} {l : List Value} (h : TBlk w b l) (i : Nat) (v : Value) : TBlk (w.setCell ⟨b, i, none⟩ v) b (l.set i v) := by
  unfold TBlk at h ⊢
  rw [heap_setCell_same w b i _ _ v h]
  simp
theorem TBlk.aside {w : World} {b : Nat} {l : List Value} (h : TBlk w b l) (b' i : Nat) (hb : b' ≠ b) (v : Value) : TBlk (w.setCell ⟨b', i, none⟩ v) b l := by
  unfold TBlk at h ⊢
  rw [Below.heap_setCell w _ v b (by simpa using hb.symm)]
  exact h

/-- Fiv numbers that lie in a block. -/
def Fiv (w : World) (b : Nat) (s n t c g : Int) : Prop := w.cell? ⟨b, 0, none⟩ = some (.int .i64 s) ∧ w.cell? ⟨b, 1, none⟩ = some (.int .i64 n) ∧ w.cell? ⟨b, 2, none⟩ = some (.int .i64 t) ∧ w.cell? ⟨b, 3, none⟩ = some (.int .i64 c) ∧ w.cell? ⟨b, 4, none⟩ = some (.int .i64 g) ∧ b < w.heap.size
theorem Fiv.later {w w' : World} {b : Nat} {s n t c g : Int} (h : Fiv w b s n t c g) (k : Below w.heap.size w w') : Fiv w' b s n t c g := by
  obtain ⟨h0, h1, h2, h3, h4, hz⟩ := h
  exact ⟨(k.cell hz).trans h0, (k.cell hz).trans h1, (k.cell hz).trans h2, (k.cell hz).trans h3, (k.cell hz).trans h4, Nat.lt_of_lt_of_le hz k.size⟩
theorem Fiv.own (w : World) (s n t c g : Int) (ty : TypeId) : Fiv (w.alloc (.cells #[.int .i64 s, .int .i64 n, .int .i64 t, .int .i64 c, .int .i64 g] ty (0, 0))) w.heap.size s n t c g :=
  ⟨by simp, by simp, by simp, by simp, by simp, by show w.heap.size < (w.heap.push _).size; simp⟩

theorem cut_yes (s : ByteArray) (r : List UInt8) (h : s.data.toList = 1 :: r) (hs : s.size ≤ maxLen) (w : World) :
    Calls Tryd.prog 87 #[.string s, .string ⟨#[1]⟩] w fun e w' => e = .returned (.tuple #[.string ⟨r.toArray⟩, .bool true]) ∧ Below w.heap.size w w' := by
  have hz : s.size = r.length + 1 := by
    have : s.data.toList.length = s.size := by simp
    rw [h] at this
    simp at this
    omega
  have S0 := str_to s 1 1 rfl (by omega)
  have S1 := str_from s 1 1 rfl (by omega)
  rw [h] at S0 S1
  simp only [List.take_succ_cons, List.take_zero, List.drop_succ_cons, List.drop_zero] at S0 S1
  have T : decide ((1 : Int) ≤ (s.size : Int)) = true := by simp; omega
  unfold maxLen at hs
  clear h hz
  go_enter Tryd.func87, Tryd.ntmps87
  go_wp2
  go_ret2
  exact ⟨rfl, Below.refl _ _⟩

theorem cut_no (s : ByteArray) (h : cut1 s.data.toList = none) (hs : s.size ≤ maxLen) (w : World) :
    Calls Tryd.prog 87 #[.string s, .string ⟨#[1]⟩] w fun e w' => e = .returned (.tuple #[.string s, .bool false]) ∧ Below w.heap.size w w' := by
  have hz : s.data.toList.length = s.size := by simp
  unfold maxLen at hs
  match hl : s.data.toList with
  | [] =>
    rw [hl] at hz
    have T : decide ((1 : Int) ≤ (s.size : Int)) = false := by simp at hz ⊢; omega
    have hs : s.size ≤ 10 := by simp at hz; omega
    clear h hl hz
    go_enter Tryd.func87, Tryd.ntmps87
    go_wp2
    go_ret2
    exact ⟨rfl, Below.refl _ _⟩
  | b :: r =>
    rw [hl] at hz h
    have hb : (([b] : List UInt8) == [1]) = false := by
      by_cases g : b = 1
      · simp [cut1, g] at h
      · simpa using g
    have hz2 : s.size = r.length + 1 := by simp at hz; omega
    have S0 := str_to s 1 1 rfl (by omega)
    rw [hl] at S0
    simp only [List.take_succ_cons, List.take_zero] at S0
    have T : decide ((1 : Int) ≤ (s.size : Int)) = true := by simp; omega
    clear h hl hz hz2
    go_enter Tryd.func87, Tryd.ntmps87
    go_wp2
    go_ret2
    exact ⟨rfl, Below.refl _ _⟩

/-- The transaction of bytes. -/
def dec (s : List UInt8) : Option Tx :=
  (cut1 s).bind fun r => (take5 r).bind fun p => (takeText p.2 256).bind fun q =>
    if q.2 = [] ∧ (Tx.mk p.1.1 p.1.2.1 p.1.2.2.1 p.1.2.2.2.1 p.1.2.2.2.2 ⟨q.1.toArray⟩).ok = true then some (Tx.mk p.1.1 p.1.2.1 p.1.2.2.1 p.1.2.2.2.1 p.1.2.2.2.2 ⟨q.1.toArray⟩) else none
def Tx.zero : Tx := ⟨0, 0, 0, 0, 0, ⟨#[]⟩⟩
def retDec : Option Tx → Value
  | none => .tuple #[Tx.zero.val, .bool false]
  | some x => .tuple #[x.val, .bool true]
def Tx.cells (x : Tx) : List Value := [.int .i64 x.s, .int .i64 x.n, .int .i64 x.t, .int .i64 x.c, .int .i64 x.g, .string x.d]
theorem tblk_new (w : World) : TBlk (w.alloc (.cells #[.int .i64 0, .int .i64 0, .int .i64 0, .int .i64 0, .int .i64 0, .string ⟨#[]⟩] 28 (0, 0))) w.heap.size Tx.zero.cells := by
  show (w.heap.push _)[w.heap.size]? = _
  simp [Tx.zero, Tx.cells]

/-- Six cells of a block are written. -/
def six (w : World) (b : Nat) (x : Tx) : World := (((((w.setCell ⟨b, 0, none⟩ (.int .i64 x.s)).setCell ⟨b, 1, none⟩ (.int .i64 x.n)).setCell ⟨b, 2, none⟩ (.int .i64 x.t)).setCell ⟨b, 3, none⟩ (.int .i64 x.c)).setCell ⟨b, 4, none⟩ (.int .i64 x.g)).setCell ⟨b, 5, none⟩ (.string x.d)
theorem six_blk {w : World} {b : Nat} (x : Tx) (h : TBlk w b Tx.zero.cells) : TBlk (six w b x) b x.cells :=
  (((((h.put 0 (.int .i64 x.s)).put 1 (.int .i64 x.n)).put 2 (.int .i64 x.t)).put 3 (.int .i64 x.c)).put 4 (.int .i64 x.g)).put 5 (.string x.d)
theorem six_below {w0 w : World} (b : Nat) (x : Tx) (h : Below w0.heap.size w0 w) (hb : w0.heap.size ≤ b) : Below w0.heap.size w0 (six w b x) :=
  (((((h.setCell (p := ⟨b, 0, none⟩) hb _).setCell (p := ⟨b, 1, none⟩) hb _).setCell (p := ⟨b, 2, none⟩) hb _).setCell (p := ⟨b, 3, none⟩) hb _).setCell (p := ⟨b, 4, none⟩) hb _).setCell (p := ⟨b, 5, none⟩) hb _

theorem take5_len (r : List UInt8) (p : (Nat × Nat × Nat × Nat × Nat) × List UInt8) (h : take5 r = some p) (hr : r.length ≤ maxLen) : p.2.length ≤ maxLen := by
  have step : ∀ (l t : List UInt8) (k : Nat) (m : Int), takeNum l m = some (k, t) → l.length ≤ maxLen → t.length ≤ maxLen := by
    intro l t k m h hl
    have e := congrArg List.length (takeNum_some _ _ _ _ h).1
    rw [List.length_append] at e
    omega
  unfold take5 at h
  rcases h0 : takeNum r 255 with _ | ⟨k0, r0⟩
  · rw [h0] at h; cases h
  rw [h0, Option.bind_some] at h
  simp only [] at h
  rcases h1 : takeNum r0 4294967295 with _ | ⟨k1, r1⟩
  · rw [h1] at h; cases h
  rw [h1, Option.bind_some] at h
  simp only [] at h
  rcases h2 : takeNum r1 1099511627776 with _ | ⟨k2, r2⟩
  · rw [h2] at h; cases h
  rw [h2, Option.bind_some] at h
  simp only [] at h
  rcases h3 : takeNum r2 1099511627776 with _ | ⟨k3, r3⟩
  · rw [h3] at h; cases h
  rw [h3, Option.bind_some] at h
  simp only [] at h
  rcases h4 : takeNum r3 1073741824 with _ | ⟨k4, r4⟩
  · rw [h4] at h; cases h
  rw [h4, Option.bind_some] at h
  cases h
  exact step _ _ _ _ h4 (step _ _ _ _ h3 (step _ _ _ _ h2 (step _ _ _ _ h1 (step _ _ _ _ h0 hr))))

set_option maxHeartbeats 1000000 in
theorem decode_cut (s : ByteArray) (w : World) (hM : Most w) (hs : s.size ≤ maxLen) (h0 : cut1 s.data.toList = none) :
    Calls Tryd.prog 58 #[.string s] w fun e w' => e = .returned (retDec none) ∧ Below w.heap.size w w' := by
  have C := Lib.hid (cut_no s h0 hs)
  have R := tblk_new w
  have hbel := laid (Below.refl w.heap.size w) (.cells #[.int .i64 0, .int .i64 0, .int .i64 0, .int .i64 0, .int .i64 0, .string ⟨#[]⟩] 28 (0, 0))
  have hM := hM.later hbel
  clear h0
  go_enter Tryd.func58, Tryd.ntmps58
  go_wp2_with fail
  generalize w.alloc (.cells #[.int .i64 0, .int .i64 0, .int .i64 0, .int .i64 0, .int .i64 0, .string ⟨#[]⟩] 28 (0, 0)) = w0 at R hbel hM ⊢
  refine (C.out _).mono ?_
  rintro e w1 ⟨rfl, hb1⟩
  have R := R.later hb1
  have hM := hM.later hb1
  have hbel := later hbel hb1
  clear hb1
  have fz := R.thaw
  have z0 := R.cell 0 (.int .i64 0) rfl
  have z1 := R.cell 1 (.int .i64 0) rfl
  have z2 := R.cell 2 (.int .i64 0) rfl
  have z3 := R.cell 3 (.int .i64 0) rfl
  have z4 := R.cell 4 (.int .i64 0) rfl
  have z5 := R.cell 5 (.string ⟨#[]⟩) rfl
  go_wp2_with fail
  have R := six_blk Tx.zero R
  have hbel := six_below w.heap.size Tx.zero hbel (Nat.le_refl _)
  clear fz z0 z1 z2 z3 z4 z5
  have z0 := R.cell 0 _ rfl
  have z1 := R.cell 1 _ rfl
  have z2 := R.cell 2 _ rfl
  have z3 := R.cell 3 _ rfl
  have z4 := R.cell 4 _ rfl
  have z5 := R.cell 5 _ rfl
  simp only [six, Tx.zero] at hbel z0 z1 z2 z3 z4 z5
  refine bodyPost_ret (v := retDec none) (by simp [results, Tryd.results58, go_sem, retDec, Tx.val, Tx.zero, z0, z1, z2, z3, z4, z5]) rfl ⟨rfl, hbel⟩

set_option maxHeartbeats 1000000 in
theorem decode_nums (s : ByteArray) (r : List UInt8) (w : World) (hM : Most w) (hs : s.size ≤ maxLen) (h0 : cut1 s.data.toList = some r) (h1 : take5 r = none) :
    Calls Tryd.prog 58 #[.string s] w fun e w' => e = .returned (retDec none) ∧ Below w.heap.size w w' := by
  have e0 : s.data.toList = 1 :: r := by
    cases hl : s.data.toList with
    | nil => rw [hl] at h0; cases h0
    | cons b t =>
      rw [hl] at h0
      by_cases g : b = 1
      · simp [cut1, g] at h0
        rw [g, h0]
      · simp [cut1, g] at h0
  have hr : r.length ≤ maxLen := by
    have e3 : s.data.toList.length = s.size := by simp
    rw [e0] at e3
    simp at e3
    omega
  have C := Lib.hid (cut_yes s r e0 hs)
  have N := Lib.hid (fun w hM => take5_any ⟨r.toArray⟩ w hM hr)
  simp only [] at N
  rw [h1] at N
  simp only [ret5] at N
  have R := tblk_new w
  have hbel := laid (Below.refl w.heap.size w) (.cells #[.int .i64 0, .int .i64 0, .int .i64 0, .int .i64 0, .int .i64 0, .string ⟨#[]⟩] 28 (0, 0))
  have hM := hM.later hbel
  clear h0 e0 h1
  go_enter Tryd.func58, Tryd.ntmps58
  go_wp2_with fail
  generalize w.alloc (.cells #[.int .i64 0, .int .i64 0, .int .i64 0, .int .i64 0, .int .i64 0, .string ⟨#[]⟩] 28 (0, 0)) = w0 at R hbel hM ⊢
  refine (C.out _).mono ?_
  rintro e w1 ⟨rfl, hb1⟩
  have R := R.later hb1
  have hM := hM.later hb1
  have hbel := later hbel hb1
  clear hb1
  go_wp2_with fail
  refine (N.out _ hM).mono ?_
  rintro e w2 ⟨rfl, hb2⟩
  have R := R.later hb2
  have hM := hM.later hb2
  have hbel := later hbel hb2
  clear hb2
  have F0 := Fiv.own w2 0 0 0 0 0 83
  have hl : Below w2.heap.size w2 (w2.alloc (.cells #[.int .i64 0, .int .i64 0, .int .i64 0, .int .i64 0, .int .i64 0] 83 (0, 0))) := laid (Below.refl _ _) _
  have R := R.later hl
  have hbel := later hbel hl
  have fz := R.thaw
  have z0 := R.cell 0 (.int .i64 0) rfl
  have z1 := R.cell 1 (.int .i64 0) rfl
  have z2 := R.cell 2 (.int .i64 0) rfl
  have z3 := R.cell 3 (.int .i64 0) rfl
  have z4 := R.cell 4 (.int .i64 0) rfl
  have z5 := R.cell 5 (.string ⟨#[]⟩) rfl
  go_wp2_with fail
  have R := six_blk Tx.zero R
  have hbel := six_below w.heap.size Tx.zero hbel (Nat.le_refl _)
  clear fz z0 z1 z2 z3 z4 z5
  have z0 := R.cell 0 _ rfl
  have z1 := R.cell 1 _ rfl
  have z2 := R.cell 2 _ rfl
  have z3 := R.cell 3 _ rfl
  have z4 := R.cell 4 _ rfl
  have z5 := R.cell 5 _ rfl
  simp only [six, Tx.zero] at hbel z0 z1 z2 z3 z4 z5
  refine bodyPost_ret (v := retDec none) (by simp [results, Tryd.results58, go_sem, retDec, Tx.val, Tx.zero, z0, z1, z2, z3, z4, z5]) rfl ⟨rfl, hbel⟩

set_option maxHeartbeats 1000000 in
theorem decode_text (s : ByteArray) (r : List UInt8) (k0 k1 k2 k3 k4 : Nat) (r4 : List UInt8) (w : World) (hM : Most w) (hs : s.size ≤ maxLen) (h0 : cut1 s.data.toList = some r) (h1 : take5 r = some ((k0, k1, k2, k3, k4), r4)) (h2 : takeText r4 256 = none) :
    Calls Tryd.prog 58 #[.string s] w fun e w' => e = .returned (retDec none) ∧ Below w.heap.size w w' := by
  have e0 : s.data.toList = 1 :: r := by
    cases hl : s.data.toList with
    | nil => rw [hl] at h0; cases h0
    | cons b t =>
      rw [hl] at h0
      by_cases g : b = 1
      · simp [cut1, g] at h0
        rw [g, h0]
      · simp [cut1, g] at h0
  have hr : r.length ≤ maxLen := by
    have e3 : s.data.toList.length = s.size := by simp
    rw [e0] at e3
    simp at e3
    omega
  have C := Lib.hid (cut_yes s r e0 hs)
  have N := Lib.hid (fun w hM => take5_any ⟨r.toArray⟩ w hM hr)
  simp only [] at N
  rw [h1] at N
  simp only [ret5] at N
  have hr4 : r4.length ≤ maxLen := take5_len r _ h1 hr
  have T := Lib.hid (fun w => ctaketext_any ⟨r4.toArray⟩ 256 w hr4)
  simp only [] at T
  rw [h2] at T
  simp only [retText] at T
  have R := tblk_new w
  have hbel := laid (Below.refl w.heap.size w) (.cells #[.int .i64 0, .int .i64 0, .int .i64 0, .int .i64 0, .int .i64 0, .string ⟨#[]⟩] 28 (0, 0))
  have hM := hM.later hbel
  clear h0 e0 h1 h2
  go_enter Tryd.func58, Tryd.ntmps58
  go_wp2_with fail
  generalize w.alloc (.cells #[.int .i64 0, .int .i64 0, .int .i64 0, .int .i64 0, .int .i64 0, .string ⟨#[]⟩] 28 (0, 0)) = w0 at R hbel hM ⊢
  refine (C.out _).mono ?_
  rintro e w1 ⟨rfl, hb1⟩
  have R := R.later hb1
  have hM := hM.later hb1
  have hbel := later hbel hb1
  clear hb1
  go_wp2_with fail
  refine (N.out _ hM).mono ?_
  rintro e w2 ⟨rfl, hb2⟩
  have R := R.later hb2
  have hM := hM.later hb2
  have hbel := later hbel hb2
  clear hb2
  have F0 := Fiv.own w2 k0 k1 k2 k3 k4 83
  have hl : Below w2.heap.size w2 (w2.alloc (.cells #[.int .i64 (k0 : Int), .int .i64 (k1 : Int), .int .i64 (k2 : Int), .int .i64 (k3 : Int), .int .i64 (k4 : Int)] 83 (0, 0))) := laid (Below.refl _ _) _
  have R := R.later hl
  have hM := hM.later hl
  have hbel := later hbel hl
  clear hl
  go_wp2_with fail
  generalize w2.alloc (.cells #[.int .i64 (k0 : Int), .int .i64 (k1 : Int), .int .i64 (k2 : Int), .int .i64 (k3 : Int), .int .i64 (k4 : Int)] 83 (0, 0)) = w3 at F0 R hM hbel ⊢
  refine (T.out _).mono ?_
  rintro e w4 ⟨rfl, hb4⟩
  have R := R.later hb4
  have hM := hM.later hb4
  have hbel := later hbel hb4
  have F0 := F0.later hb4
  clear hb4
  obtain ⟨f0, f1, f2, f3, f4, _⟩ := F0
  have B0 := Box.own w4 (Tx.mk k0 k1 k2 k3 k4 ⟨#[]⟩) 28
  simp only [] at B0
  have hl : Below w4.heap.size w4 (w4.alloc (.cells #[.int .i64 (k0 : Int), .int .i64 (k1 : Int), .int .i64 (k2 : Int), .int .i64 (k3 : Int), .int .i64 (k4 : Int), .string ⟨#[]⟩] 28 (0, 0))) := laid (Below.refl _ _) _
  have R := R.later hl
  have hM := hM.later hl
  have hbel := later hbel hl
  clear hl
  have fz := R.thaw
  have z0 := R.cell 0 (.int .i64 0) rfl
  have z1 := R.cell 1 (.int .i64 0) rfl
  have z2 := R.cell 2 (.int .i64 0) rfl
  have z3 := R.cell 3 (.int .i64 0) rfl
  have z4 := R.cell 4 (.int .i64 0) rfl
  have z5 := R.cell 5 (.string ⟨#[]⟩) rfl
  go_wp2_with fail
  have R := six_blk Tx.zero R
  have hbel := six_below w.heap.size Tx.zero hbel (Nat.le_refl _)
  clear fz z0 z1 z2 z3 z4 z5
  have z0 := R.cell 0 _ rfl
  have z1 := R.cell 1 _ rfl
  have z2 := R.cell 2 _ rfl
  have z3 := R.cell 3 _ rfl
  have z4 := R.cell 4 _ rfl
  have z5 := R.cell 5 _ rfl
  simp only [six, Tx.zero] at hbel z0 z1 z2 z3 z4 z5
  refine bodyPost_ret (v := retDec none) (by simp [results, Tryd.results58, go_sem, retDec, Tx.val, Tx.zero, z0, z1, z2, z3, z4, z5]) rfl ⟨rfl, hbel⟩

set_option maxHeartbeats 1000000 in
theorem decode_more (s : ByteArray) (r : List UInt8) (k0 k1 k2 k3 k4 : Nat) (r4 : List UInt8) (d q : List UInt8) (w : World) (hM : Most w) (hs : s.size ≤ maxLen) (h0 : cut1 s.data.toList = some r) (h1 : take5 r = some ((k0, k1, k2, k3, k4), r4)) (h2 : takeText r4 256 = some (d, q)) (hq : q ≠ []) :
    Calls Tryd.prog 58 #[.string s] w fun e w' => e = .returned (retDec none) ∧ Below w.heap.size w w' := by
  have e0 : s.data.toList = 1 :: r := by
    cases hl : s.data.toList with
    | nil => rw [hl] at h0; cases h0
    | cons b t =>
      rw [hl] at h0
      by_cases g : b = 1
      · simp [cut1, g] at h0
        rw [g, h0]
      · simp [cut1, g] at h0
  have hr : r.length ≤ maxLen := by
    have e3 : s.data.toList.length = s.size := by simp
    rw [e0] at e3
    simp at e3
    omega
  have C := Lib.hid (cut_yes s r e0 hs)
  have N := Lib.hid (fun w hM => take5_any ⟨r.toArray⟩ w hM hr)
  simp only [] at N
  rw [h1] at N
  simp only [ret5] at N
  have hr4 : r4.length ≤ maxLen := take5_len r _ h1 hr
  have T := Lib.hid (fun w => ctaketext_any ⟨r4.toArray⟩ 256 w hr4)
  simp only [] at T
  rw [h2] at T
  simp only [retText] at T
  have hdl : d.length ≤ 256 := by
    have := (takeText_some _ _ _ _ h2).2.2
    omega
  have hq2 : (q == ([] : List UInt8)) = false := by simpa using hq
  have R := tblk_new w
  have hbel := laid (Below.refl w.heap.size w) (.cells #[.int .i64 0, .int .i64 0, .int .i64 0, .int .i64 0, .int .i64 0, .string ⟨#[]⟩] 28 (0, 0))
  have hM := hM.later hbel
  clear h0 e0 h1 h2 hq
  go_enter Tryd.func58, Tryd.ntmps58
  go_wp2_with fail
  generalize w.alloc (.cells #[.int .i64 0, .int .i64 0, .int .i64 0, .int .i64 0, .int .i64 0, .string ⟨#[]⟩] 28 (0, 0)) = w0 at R hbel hM ⊢
  refine (C.out _).mono ?_
  rintro e w1 ⟨rfl, hb1⟩
  have R := R.later hb1
  have hM := hM.later hb1
  have hbel := later hbel hb1
  clear hb1
  go_wp2_with fail
  refine (N.out _ hM).mono ?_
  rintro e w2 ⟨rfl, hb2⟩
  have R := R.later hb2
  have hM := hM.later hb2
  have hbel := later hbel hb2
  clear hb2
  have F0 := Fiv.own w2 k0 k1 k2 k3 k4 83
  have hl : Below w2.heap.size w2 (w2.alloc (.cells #[.int .i64 (k0 : Int), .int .i64 (k1 : Int), .int .i64 (k2 : Int), .int .i64 (k3 : Int), .int .i64 (k4 : Int)] 83 (0, 0))) := laid (Below.refl _ _) _
  have R := R.later hl
  have hM := hM.later hl
  have hbel := later hbel hl
  clear hl
  go_wp2_with fail
  generalize w2.alloc (.cells #[.int .i64 (k0 : Int), .int .i64 (k1 : Int), .int .i64 (k2 : Int), .int .i64 (k3 : Int), .int .i64 (k4 : Int)] 83 (0, 0)) = w3 at F0 R hM hbel ⊢
  refine (T.out _).mono ?_
  rintro e w4 ⟨rfl, hb4⟩
  have R := R.later hb4
  have hM := hM.later hb4
  have hbel := later hbel hb4
  have F0 := F0.later hb4
  clear hb4
  obtain ⟨f0, f1, f2, f3, f4, _⟩ := F0
  have B0 := Box.own w4 (Tx.mk k0 k1 k2 k3 k4 ⟨d.toArray⟩) 28
  simp only [] at B0
  have hl : Below w4.heap.size w4 (w4.alloc (.cells #[.int .i64 (k0 : Int), .int .i64 (k1 : Int), .int .i64 (k2 : Int), .int .i64 (k3 : Int), .int .i64 (k4 : Int), .string ⟨d.toArray⟩] 28 (0, 0))) := laid (Below.refl _ _) _
  have R := R.later hl
  have hM := hM.later hl
  have hbel := later hbel hl
  clear hl
  have fz := R.thaw
  have z0 := R.cell 0 (.int .i64 0) rfl
  have z1 := R.cell 1 (.int .i64 0) rfl
  have z2 := R.cell 2 (.int .i64 0) rfl
  have z3 := R.cell 3 (.int .i64 0) rfl
  have z4 := R.cell 4 (.int .i64 0) rfl
  have z5 := R.cell 5 (.string ⟨#[]⟩) rfl
  go_wp2_with fail
  have R := six_blk Tx.zero R
  have hbel := six_below w.heap.size Tx.zero hbel (Nat.le_refl _)
  clear fz z0 z1 z2 z3 z4 z5
  have z0 := R.cell 0 _ rfl
  have z1 := R.cell 1 _ rfl
  have z2 := R.cell 2 _ rfl
  have z3 := R.cell 3 _ rfl
  have z4 := R.cell 4 _ rfl
  have z5 := R.cell 5 _ rfl
  simp only [six, Tx.zero] at hbel z0 z1 z2 z3 z4 z5
  refine bodyPost_ret (v := retDec none) (by simp [results, Tryd.results58, go_sem, retDec, Tx.val, Tx.zero, z0, z1, z2, z3, z4, z5]) rfl ⟨rfl, hbel⟩

set_option maxHeartbeats 1000000 in
theorem decode_bad (s : ByteArray) (r : List UInt8) (k0 k1 k2 k3 k4 : Nat) (r4 : List UInt8) (d q : List UInt8) (w : World) (hM : Most w) (hs : s.size ≤ maxLen) (h0 : cut1 s.data.toList = some r) (h1 : take5 r = some ((k0, k1, k2, k3, k4), r4)) (h2 : takeText r4 256 = some (d, q)) (hq : q = []) (hok : (Tx.mk k0 k1 k2 k3 k4 ⟨d.toArray⟩).ok = false) :
    Calls Tryd.prog 58 #[.string s] w fun e w' => e = .returned (retDec none) ∧ Below w.heap.size w w' := by
  have e0 : s.data.toList = 1 :: r := by
    cases hl : s.data.toList with
    | nil => rw [hl] at h0; cases h0
    | cons b t =>
      rw [hl] at h0
      by_cases g : b = 1
      · simp [cut1, g] at h0
        rw [g, h0]
      · simp [cut1, g] at h0
  have hr : r.length ≤ maxLen := by
    have e3 : s.data.toList.length = s.size := by simp
    rw [e0] at e3
    simp at e3
    omega
  have C := Lib.hid (cut_yes s r e0 hs)
  have N := Lib.hid (fun w hM => take5_any ⟨r.toArray⟩ w hM hr)
  simp only [] at N
  rw [h1] at N
  simp only [ret5] at N
  have hr4 : r4.length ≤ maxLen := take5_len r _ h1 hr
  have T := Lib.hid (fun w => ctaketext_any ⟨r4.toArray⟩ 256 w hr4)
  simp only [] at T
  rw [h2] at T
  simp only [retText] at T
  have hdl : d.length ≤ 256 := by
    have := (takeText_some _ _ _ _ h2).2.2
    omega
  subst hq
  have K := Lib.hid (fun w hM => check (Tx.mk k0 k1 k2 k3 k4 ⟨d.toArray⟩) w hM)
  rw [hok] at K
  simp only [Tx.val] at K
  have R := tblk_new w
  have hbel := laid (Below.refl w.heap.size w) (.cells #[.int .i64 0, .int .i64 0, .int .i64 0, .int .i64 0, .int .i64 0, .string ⟨#[]⟩] 28 (0, 0))
  have hM := hM.later hbel
  clear h0 e0 h1 h2 hok
  go_enter Tryd.func58, Tryd.ntmps58
  go_wp2_with fail
  generalize w.alloc (.cells #[.int .i64 0, .int .i64 0, .int .i64 0, .int .i64 0, .int .i64 0, .string ⟨#[]⟩] 28 (0, 0)) = w0 at R hbel hM ⊢
  refine (C.out _).mono ?_
  rintro e w1 ⟨rfl, hb1⟩
  have R := R.later hb1
  have hM := hM.later hb1
  have hbel := later hbel hb1
  clear hb1
  go_wp2_with fail
  refine (N.out _ hM).mono ?_
  rintro e w2 ⟨rfl, hb2⟩
  have R := R.later hb2
  have hM := hM.later hb2
  have hbel := later hbel hb2
  clear hb2
  have F0 := Fiv.own w2 k0 k1 k2 k3 k4 83
  have hl : Below w2.heap.size w2 (w2.alloc (.cells #[.int .i64 (k0 : Int), .int .i64 (k1 : Int), .int .i64 (k2 : Int), .int .i64 (k3 : Int), .int .i64 (k4 : Int)] 83 (0, 0))) := laid (Below.refl _ _) _
  have R := R.later hl
  have hM := hM.later hl
  have hbel := later hbel hl
  clear hl
  go_wp2_with fail
  generalize w2.alloc (.cells #[.int .i64 (k0 : Int), .int .i64 (k1 : Int), .int .i64 (k2 : Int), .int .i64 (k3 : Int), .int .i64 (k4 : Int)] 83 (0, 0)) = w3 at F0 R hM hbel ⊢
  refine (T.out _).mono ?_
  rintro e w4 ⟨rfl, hb4⟩
  have R := R.later hb4
  have hM := hM.later hb4
  have hbel := later hbel hb4
  have F0 := F0.later hb4
  clear hb4
  obtain ⟨f0, f1, f2, f3, f4, _⟩ := F0
  have B0 := Box.own w4 (Tx.mk k0 k1 k2 k3 k4 ⟨d.toArray⟩) 28
  simp only [] at B0
  have hl : Below w4.heap.size w4 (w4.alloc (.cells #[.int .i64 (k0 : Int), .int .i64 (k1 : Int), .int .i64 (k2 : Int), .int .i64 (k3 : Int), .int .i64 (k4 : Int), .string ⟨d.toArray⟩] 28 (0, 0))) := laid (Below.refl _ _) _
  have R := R.later hl
  have hM := hM.later hl
  have hbel := later hbel hl
  clear hl
  go_wp2_with fail
  generalize w4.alloc (.cells #[.int .i64 (k0 : Int), .int .i64 (k1 : Int), .int .i64 (k2 : Int), .int .i64 (k3 : Int), .int .i64 (k4 : Int), .string ⟨d.toArray⟩] 28 (0, 0)) = w5 at B0 R hM hbel ⊢
  refine (K.out _ hM).mono ?_
  rintro e w6 ⟨rfl, hb6⟩
  have R := R.later hb6
  have hM := hM.later hb6
  have hbel := later hbel hb6
  have B0 := B0.later hb6
  clear hb6
  obtain ⟨c0, c1, c2, c3, c4, c5, _⟩ := B0
  simp only [] at c0 c1 c2 c3 c4 c5
  have fz := R.thaw
  have z0 := R.cell 0 (.int .i64 0) rfl
  have z1 := R.cell 1 (.int .i64 0) rfl
  have z2 := R.cell 2 (.int .i64 0) rfl
  have z3 := R.cell 3 (.int .i64 0) rfl
  have z4 := R.cell 4 (.int .i64 0) rfl
  have z5 := R.cell 5 (.string ⟨#[]⟩) rfl
  go_wp2_with fail
  have R := six_blk Tx.zero R
  have hbel := six_below w.heap.size Tx.zero hbel (Nat.le_refl _)
  clear fz z0 z1 z2 z3 z4 z5
  have z0 := R.cell 0 _ rfl
  have z1 := R.cell 1 _ rfl
  have z2 := R.cell 2 _ rfl
  have z3 := R.cell 3 _ rfl
  have z4 := R.cell 4 _ rfl
  have z5 := R.cell 5 _ rfl
  simp only [six, Tx.zero] at hbel z0 z1 z2 z3 z4 z5
  refine bodyPost_ret (v := retDec none) (by simp [results, Tryd.results58, go_sem, retDec, Tx.val, Tx.zero, z0, z1, z2, z3, z4, z5]) rfl ⟨rfl, hbel⟩

set_option maxHeartbeats 1000000 in
theorem decode_good (s : ByteArray) (r : List UInt8) (k0 k1 k2 k3 k4 : Nat) (r4 : List UInt8) (d q : List UInt8) (w : World) (hM : Most w) (hs : s.size ≤ maxLen) (h0 : cut1 s.data.toList = some r) (h1 : take5 r = some ((k0, k1, k2, k3, k4), r4)) (h2 : takeText r4 256 = some (d, q)) (hq : q = []) (hok : (Tx.mk k0 k1 k2 k3 k4 ⟨d.toArray⟩).ok = true) :
    Calls Tryd.prog 58 #[.string s] w fun e w' => e = .returned (retDec (some (Tx.mk k0 k1 k2 k3 k4 ⟨d.toArray⟩))) ∧ Below w.heap.size w w' := by
  have e0 : s.data.toList = 1 :: r := by
    cases hl : s.data.toList with
    | nil => rw [hl] at h0; cases h0
    | cons b t =>
      rw [hl] at h0
      by_cases g : b = 1
      · simp [cut1, g] at h0
        rw [g, h0]
      · simp [cut1, g] at h0
  have hr : r.length ≤ maxLen := by
    have e3 : s.data.toList.length = s.size := by simp
    rw [e0] at e3
    simp at e3
    omega
  have C := Lib.hid (cut_yes s r e0 hs)
  have N := Lib.hid (fun w hM => take5_any ⟨r.toArray⟩ w hM hr)
  simp only [] at N
  rw [h1] at N
  simp only [ret5] at N
  have hr4 : r4.length ≤ maxLen := take5_len r _ h1 hr
  have T := Lib.hid (fun w => ctaketext_any ⟨r4.toArray⟩ 256 w hr4)
  simp only [] at T
  rw [h2] at T
  simp only [retText] at T
  have hdl : d.length ≤ 256 := by
    have := (takeText_some _ _ _ _ h2).2.2
    omega
  subst hq
  have K := Lib.hid (fun w hM => check (Tx.mk k0 k1 k2 k3 k4 ⟨d.toArray⟩) w hM)
  rw [hok] at K
  simp only [Tx.val] at K
  have R := tblk_new w
  have hbel := laid (Below.refl w.heap.size w) (.cells #[.int .i64 0, .int .i64 0, .int .i64 0, .int .i64 0, .int .i64 0, .string ⟨#[]⟩] 28 (0, 0))
  have hM := hM.later hbel
  clear h0 e0 h1 h2 hok
  go_enter Tryd.func58, Tryd.ntmps58
  go_wp2_with fail
  generalize w.alloc (.cells #[.int .i64 0, .int .i64 0, .int .i64 0, .int .i64 0, .int .i64 0, .string ⟨#[]⟩] 28 (0, 0)) = w0 at R hbel hM ⊢
  refine (C.out _).mono ?_
  rintro e w1 ⟨rfl, hb1⟩
  have R := R.later hb1
  have hM := hM.later hb1
  have hbel := later hbel hb1
  clear hb1
  go_wp2_with fail
  refine (N.out _ hM).mono ?_
  rintro e w2 ⟨rfl, hb2⟩
  have R := R.later hb2
  have hM := hM.later hb2
  have hbel := later hbel hb2
  clear hb2
  have F0 := Fiv.own w2 k0 k1 k2 k3 k4 83
  have hl : Below w2.heap.size w2 (w2.alloc (.cells #[.int .i64 (k0 : Int), .int .i64 (k1 : Int), .int .i64 (k2 : Int), .int .i64 (k3 : Int), .int .i64 (k4 : Int)] 83 (0, 0))) := laid (Below.refl _ _) _
  have R := R.later hl
  have hM := hM.later hl
  have hbel := later hbel hl
  clear hl
  go_wp2_with fail
  generalize w2.alloc (.cells #[.int .i64 (k0 : Int), .int .i64 (k1 : Int), .int .i64 (k2 : Int), .int .i64 (k3 : Int), .int .i64 (k4 : Int)] 83 (0, 0)) = w3 at F0 R hM hbel ⊢
  refine (T.out _).mono ?_
  rintro e w4 ⟨rfl, hb4⟩
  have R := R.later hb4
  have hM := hM.later hb4
  have hbel := later hbel hb4
  have F0 := F0.later hb4
  clear hb4
  obtain ⟨f0, f1, f2, f3, f4, _⟩ := F0
  have B0 := Box.own w4 (Tx.mk k0 k1 k2 k3 k4 ⟨d.toArray⟩) 28
  simp only [] at B0
  have hl : Below w4.heap.size w4 (w4.alloc (.cells #[.int .i64 (k0 : Int), .int .i64 (k1 : Int), .int .i64 (k2 : Int), .int .i64 (k3 : Int), .int .i64 (k4 : Int), .string ⟨d.toArray⟩] 28 (0, 0))) := laid (Below.refl _ _) _
  have R := R.later hl
  have hM := hM.later hl
  have hbel := later hbel hl
  clear hl
  go_wp2_with fail
  generalize w4.alloc (.cells #[.int .i64 (k0 : Int), .int .i64 (k1 : Int), .int .i64 (k2 : Int), .int .i64 (k3 : Int), .int .i64 (k4 : Int), .string ⟨d.toArray⟩] 28 (0, 0)) = w5 at B0 R hM hbel ⊢
  refine (K.out _ hM).mono ?_
  rintro e w6 ⟨rfl, hb6⟩
  have R := R.later hb6
  have hM := hM.later hb6
  have hbel := later hbel hb6
  have B0 := B0.later hb6
  clear hb6
  obtain ⟨c0, c1, c2, c3, c4, c5, _⟩ := B0
  simp only [] at c0 c1 c2 c3 c4 c5
  have fz := R.thaw
  have z0 := R.cell 0 (.int .i64 0) rfl
  have z1 := R.cell 1 (.int .i64 0) rfl
  have z2 := R.cell 2 (.int .i64 0) rfl
  have z3 := R.cell 3 (.int .i64 0) rfl
  have z4 := R.cell 4 (.int .i64 0) rfl
  have z5 := R.cell 5 (.string ⟨#[]⟩) rfl
  go_wp2_with fail
  have R := six_blk (Tx.mk k0 k1 k2 k3 k4 ⟨d.toArray⟩) R
  have hbel := six_below w.heap.size (Tx.mk k0 k1 k2 k3 k4 ⟨d.toArray⟩) hbel (Nat.le_refl _)
  clear fz z0 z1 z2 z3 z4 z5
  have z0 := R.cell 0 _ rfl
  have z1 := R.cell 1 _ rfl
  have z2 := R.cell 2 _ rfl
  have z3 := R.cell 3 _ rfl
  have z4 := R.cell 4 _ rfl
  have z5 := R.cell 5 _ rfl
  simp only [six, Tx.zero] at hbel z0 z1 z2 z3 z4 z5
  refine bodyPost_ret (v := retDec (some (Tx.mk k0 k1 k2 k3 k4 ⟨d.toArray⟩))) (by simp [results, Tryd.results58, go_sem, retDec, Tx.val, Tx.zero, z0, z1, z2, z3, z4, z5]) rfl ⟨rfl, hbel⟩

end Go.Proofs.YtedhkfkiopgmbaaDoor.txn
