/- What hopperlaw04's own examples come to: live answers true. -/
import Derived.Test.YtedhkfkiopgmbaaDoorTxnAny
import Derived.Test.YtedhkfkiopgmbaaDoorTxnBetterC
namespace Go.Proofs.YtedhkfkiopgmbaaDoor.txn
open Go.RowKit codec
set_option linter.unusedVariables false
set_option linter.unusedSimpArgs false

def T0 : Tx := ⟨3, 4, 5, 6, 21000, ⟨#[120]⟩⟩
def T1 : Tx := ⟨3, 4, 6, 6, 21000, ⟨#[120]⟩⟩
def T2 : Tx := ⟨3, 4, 5, 4, 21000, ⟨#[120]⟩⟩
theorem ok0 : T0.ok = true := by decide
theorem ok2 : T2.ok = false := by decide
theorem small_num (k : Nat) (h : k < 256) : num k = [1, UInt8.ofNat k] := by
  have e : size k = 1 := size_of k 1 (by omega) (by omega) (Or.inl rfl)
  unfold num
  rw [e]
  rfl
theorem num_21000 : num 21000 = [2, 82, 8] := by
  have e : size 21000 = 2 := size_of 21000 2 (by omega) (by decide) (Or.inr (by decide))
  unfold num
  rw [e]
  decide
theorem enc0 : enc T0 = [1, 1, 3, 1, 4, 1, 5, 1, 6, 2, 82, 8, 0, 1, 120] := by
  simp only [enc, T0]
  rw [show (3 : Int).toNat = 3 from rfl, show (4 : Int).toNat = 4 from rfl, show (5 : Int).toNat = 5 from rfl, show (6 : Int).toNat = 6 from rfl, show (21000 : Int).toNat = 21000 from rfl, small_num 3 (by omega), small_num 4 (by omega), small_num 5 (by omega), small_num 6 (by omega), num_21000]
  decide
theorem encode0 (w : World) (hM : Most w) : Calls Tryd.prog 57 #[.agg #[.int .i64 3, .int .i64 4, .int .i64 5, .int .i64 6, .int .i64 21000, .string ⟨#[120]⟩]] w fun e w' => e = .returned (.tuple #[.string ⟨#[1, 1, 3, 1, 4, 1, 5, 1, 6, 2, 82, 8, 0, 1, 120]⟩, .bool true]) ∧ Below w.heap.size w w' := by
  have h := encode T0 w hM (by show 1 ≤ maxLen; unfold maxLen; omega)
  rw [show encV T0 = enc T0 from by unfold encV; rw [ok0]; rfl, enc0, ok0] at h
  exact h
theorem decode0 (w : World) (hM : Most w) : Calls Tryd.prog 58 #[.string ⟨#[1, 1, 3, 1, 4, 1, 5, 1, 6, 2, 82, 8, 0, 1, 120]⟩] w fun e w' => e = .returned (.tuple #[.agg #[.int .i64 3, .int .i64 4, .int .i64 5, .int .i64 6, .int .i64 21000, .string ⟨#[120]⟩], .bool true]) ∧ Below w.heap.size w w' := by
  have h := decode_any ⟨#[1, 1, 3, 1, 4, 1, 5, 1, 6, 2, 82, 8, 0, 1, 120]⟩ w hM (by show 15 ≤ maxLen; unfold maxLen; omega)
  have e := dec_enc T0 ok0 []
  rw [if_pos rfl, enc0] at e
  have e2 : dec (⟨#[1, 1, 3, 1, 4, 1, 5, 1, 6, 2, 82, 8, 0, 1, 120]⟩ : ByteArray).data.toList = some T0 := e
  rw [e2] at h
  exact h
theorem decode1 (w : World) (hM : Most w) : Calls Tryd.prog 58 #[.string (⟨#[1, 1, 3, 1, 4, 1, 5, 1, 6, 2, 82, 8, 0, 1, 120]⟩ ++ ⟨#[0]⟩)] w fun e w' => e = .returned (.tuple #[.agg #[.int .i64 0, .int .i64 0, .int .i64 0, .int .i64 0, .int .i64 0, .string ⟨#[]⟩], .bool false]) ∧ Below w.heap.size w w' := by
  have h := decode_any ⟨#[1, 1, 3, 1, 4, 1, 5, 1, 6, 2, 82, 8, 0, 1, 120, 0]⟩ w hM (by show 16 ≤ maxLen; unfold maxLen; omega)
  have e := dec_enc T0 ok0 [0]
  rw [if_neg (by decide), enc0] at e
  have e2 : dec (⟨#[1, 1, 3, 1, 4, 1, 5, 1, 6, 2, 82, 8, 0, 1, 120, 0]⟩ : ByteArray).data.toList = none := e
  rw [e2] at h
  rw [show (⟨#[1, 1, 3, 1, 4, 1, 5, 1, 6, 2, 82, 8, 0, 1, 120]⟩ ++ ⟨#[0]⟩ : ByteArray) = ⟨#[1, 1, 3, 1, 4, 1, 5, 1, 6, 2, 82, 8, 0, 1, 120, 0]⟩ from by apply ByteArray.ext; simp]
  exact h
theorem better_of (a b : Tx) (v : Bool) (hv : betterV a b = v) (w : World) (hM : Most w) (ha : a.d.size ≤ 1000) (hb : b.d.size ≤ 1000) :
    Calls Tryd.prog 80 #[a.val, b.val] w fun e w' => e = .returned (.bool v) ∧ Below w.heap.size w w' := by
  subst hv
  exact better a b w hM (by unfold maxLen; omega) (by unfold maxLen; omega)
theorem slot0 : slotV T0 = 1 := by
  unfold slotV
  rw [ok0, if_pos rfl, enc0]
  decide
theorem id_len (x : Tx) (h : x.ok = true) : (idV x).length = 16 := by
  unfold idV
  rw [h, if_pos rfl, fnv.digits_len]

theorem small1 : (1 : Nat) ≤ maxLen := by unfold maxLen; omega
theorem bet10 (w : World) (hM : Most w) : Calls Tryd.prog 80 #[.agg #[.int .i64 3, .int .i64 4, .int .i64 6, .int .i64 6, .int .i64 21000, .string ⟨#[120]⟩], .agg #[.int .i64 3, .int .i64 4, .int .i64 5, .int .i64 6, .int .i64 21000, .string ⟨#[120]⟩]] w fun e w' => e = .returned (.bool true) ∧ Below w.heap.size w w' := by
  have h := better T1 T0 w hM small1 small1
  rw [show betterV T1 T0 = true from by unfold betterV; rw [if_pos (by decide)]; decide] at h
  exact h
theorem bet01 (w : World) (hM : Most w) : Calls Tryd.prog 80 #[.agg #[.int .i64 3, .int .i64 4, .int .i64 5, .int .i64 6, .int .i64 21000, .string ⟨#[120]⟩], .agg #[.int .i64 3, .int .i64 4, .int .i64 6, .int .i64 6, .int .i64 21000, .string ⟨#[120]⟩]] w fun e w' => e = .returned (.bool false) ∧ Below w.heap.size w w' := by
  have h := better T0 T1 w hM small1 small1
  rw [show betterV T0 T1 = false from by unfold betterV; rw [if_pos (by decide)]; decide] at h
  exact h
theorem bet00 (w : World) (hM : Most w) : Calls Tryd.prog 80 #[.agg #[.int .i64 3, .int .i64 4, .int .i64 5, .int .i64 6, .int .i64 21000, .string ⟨#[120]⟩], .agg #[.int .i64 3, .int .i64 4, .int .i64 5, .int .i64 6, .int .i64 21000, .string ⟨#[120]⟩]] w fun e w' => e = .returned (.bool false) ∧ Below w.heap.size w w' := by
  have h := better T0 T0 w hM small1 small1
  rw [show betterV T0 T0 = false from by unfold betterV; rw [if_neg (by simp), if_neg (by simp), if_neg (by simp)]; simp] at h
  exact h
theorem chk0 (w : World) (hM : Most w) : Calls Tryd.prog 59 #[.agg #[.int .i64 3, .int .i64 4, .int .i64 5, .int .i64 6, .int .i64 21000, .string ⟨#[120]⟩]] w fun e w' => e = .returned (.bool true) ∧ Below w.heap.size w w' := by
  have h := check T0 w hM
  rw [ok0] at h
  exact h
theorem chk2 (w : World) (hM : Most w) : Calls Tryd.prog 59 #[.agg #[.int .i64 3, .int .i64 4, .int .i64 5, .int .i64 4, .int .i64 21000, .string ⟨#[120]⟩]] w fun e w' => e = .returned (.bool false) ∧ Below w.heap.size w w' := by
  have h := check T2 w hM
  rw [ok2] at h
  exact h
theorem slt0 (w : World) (hM : Most w) : Calls Tryd.prog 60 #[.agg #[.int .i64 3, .int .i64 4, .int .i64 5, .int .i64 6, .int .i64 21000, .string ⟨#[120]⟩]] w fun e w' => e = .returned (.int .i64 1) ∧ Below w.heap.size w w' := by
  have h := slots T0 w hM small1
  rw [slot0] at h
  exact h
theorem slt2 (w : World) (hM : Most w) : Calls Tryd.prog 60 #[.agg #[.int .i64 3, .int .i64 4, .int .i64 5, .int .i64 4, .int .i64 21000, .string ⟨#[120]⟩]] w fun e w' => e = .returned (.int .i64 0) ∧ Below w.heap.size w w' := by
  have h := slots T2 w hM small1
  rw [show slotV T2 = 0 from by unfold slotV; rw [ok2]; rfl] at h
  exact h
theorem id0 (w : World) (hM : Most w) : Calls Tryd.prog 61 #[.agg #[.int .i64 3, .int .i64 4, .int .i64 5, .int .i64 6, .int .i64 21000, .string ⟨#[120]⟩]] w fun e w' => e = .returned (.string ⟨(idV T0).toArray⟩) ∧ Below w.heap.size w w' := id T0 w hM small1
theorem id2 (w : World) (hM : Most w) : Calls Tryd.prog 61 #[.agg #[.int .i64 3, .int .i64 4, .int .i64 5, .int .i64 4, .int .i64 21000, .string ⟨#[120]⟩]] w fun e w' => e = .returned (.string ⟨#[]⟩) ∧ Below w.heap.size w w' := by
  have h := id T2 w hM small1
  rw [show idV T2 = [] from by unfold idV; rw [ok2]; rfl] at h
  exact h

set_option maxHeartbeats 2000000 in
theorem live_true (w : World) (hM : Most w) :
    Calls Tryd.prog 56 #[] w fun e w' => e = .returned (.bool true) ∧ Below w.heap.size w w' := by
  have hbel := laid (Below.refl w.heap.size w) (.cells #[.int .i64 3, .int .i64 4, .int .i64 5, .int .i64 6, .int .i64 21000, .string ⟨#[120]⟩] 28 (0, 0))
  have B1 : Box (w.alloc (.cells #[.int .i64 3, .int .i64 4, .int .i64 5, .int .i64 6, .int .i64 21000, .string ⟨#[120]⟩] 28 (0, 0))) w.heap.size T0 := Box.own w T0 28
  have hM := hM.later hbel
  have IDs := Lib.hid id0
  have hidl := id_len T0 ok0
  generalize idV T0 = IDV at IDs hidl
  go_enter Tryd.func56, Tryd.ntmps56
  go_wp2_with fail
  generalize w.alloc (.cells #[.int .i64 3, .int .i64 4, .int .i64 5, .int .i64 6, .int .i64 21000, .string ⟨#[120]⟩] 28 (0, 0)) = w0 at B1 hbel hM ⊢
  refine (encode0 _ hM).mono ?_
  rintro e w1 ⟨rfl, hb1⟩
  have B1 := B1.later hb1
  have hM := hM.later hb1
  have hbel := later hbel hb1
  clear hb1
  go_wp2_with fail
  refine (decode0 _ hM).mono ?_
  rintro e w2 ⟨rfl, hb1⟩
  have B1 := B1.later hb1
  have hM := hM.later hb1
  have hbel := later hbel hb1
  clear hb1
  go_wp2_with fail
  have B4 : Box (w2.alloc (.cells #[.int .i64 3, .int .i64 4, .int .i64 5, .int .i64 6, .int .i64 21000, .string ⟨#[120]⟩] 28 (0, 0))) w2.heap.size T0 := Box.own w2 T0 28
  have hl := laid (Below.refl w2.heap.size w2) (.cells #[.int .i64 3, .int .i64 4, .int .i64 5, .int .i64 6, .int .i64 21000, .string ⟨#[120]⟩] 28 (0, 0))
  have B1 := B1.later hl
  have hM := hM.later hl
  have hbel := later hbel hl
  clear hl
  generalize w2.alloc (.cells #[.int .i64 3, .int .i64 4, .int .i64 5, .int .i64 6, .int .i64 21000, .string ⟨#[120]⟩] 28 (0, 0)) = w3 at B4 B1 hM hbel ⊢
  refine (decode1 _ hM).mono ?_
  rintro e w4 ⟨rfl, hb1⟩
  have B1 := B1.later hb1
  have B4 := B4.later hb1
  have hM := hM.later hb1
  have hbel := later hbel hb1
  clear hb1
  obtain ⟨c0, c1, c2, c3, c4, c5, hz1⟩ := _root_.id B1
  simp only [T0] at c0 c1 c2 c3 c4 c5
  have hl : Below w4.heap.size w4 (((w4.alloc (.cells #[.int .i64 0, .int .i64 0, .int .i64 0, .int .i64 0, .int .i64 0, .string ⟨#[]⟩] 28 (0, 0))).alloc (.cells #[.int .i64 3, .int .i64 4, .int .i64 6, .int .i64 6, .int .i64 21000, .string ⟨#[120]⟩] 28 (0, 0))).alloc (.cells #[.int .i64 3, .int .i64 4, .int .i64 5, .int .i64 4, .int .i64 21000, .string ⟨#[120]⟩] 28 (0, 0))) := laid (laid (laid (Below.refl _ _) _) _) _
  have B1 := B1.later hl
  have B4 := B4.later hl
  have hM := hM.later hl
  have hbel := later hbel hl
  have B8 : Box (((w4.alloc (.cells #[.int .i64 0, .int .i64 0, .int .i64 0, .int .i64 0, .int .i64 0, .string ⟨#[]⟩] 28 (0, 0))).alloc (.cells #[.int .i64 3, .int .i64 4, .int .i64 6, .int .i64 6, .int .i64 21000, .string ⟨#[120]⟩] 28 (0, 0))).alloc (.cells #[.int .i64 3, .int .i64 4, .int .i64 5, .int .i64 4, .int .i64 21000, .string ⟨#[120]⟩] 28 (0, 0))) (w4.heap.size + 1) T1 := by
    have h := Box.own (w4.alloc (.cells #[.int .i64 0, .int .i64 0, .int .i64 0, .int .i64 0, .int .i64 0, .string ⟨#[]⟩] 28 (0, 0))) T1 28
    have hz : (w4.alloc (.cells #[.int .i64 0, .int .i64 0, .int .i64 0, .int .i64 0, .int .i64 0, .string ⟨#[]⟩] 28 (0, 0))).heap.size = w4.heap.size + 1 := by show (w4.heap.push _).size = _; simp
    rw [hz] at h
    exact h.later (laid (Below.refl _ _) _)
  have B9 : Box (((w4.alloc (.cells #[.int .i64 0, .int .i64 0, .int .i64 0, .int .i64 0, .int .i64 0, .string ⟨#[]⟩] 28 (0, 0))).alloc (.cells #[.int .i64 3, .int .i64 4, .int .i64 6, .int .i64 6, .int .i64 21000, .string ⟨#[120]⟩] 28 (0, 0))).alloc (.cells #[.int .i64 3, .int .i64 4, .int .i64 5, .int .i64 4, .int .i64 21000, .string ⟨#[120]⟩] 28 (0, 0))) (w4.heap.size + 2) T2 := by
    have h := Box.own ((w4.alloc (.cells #[.int .i64 0, .int .i64 0, .int .i64 0, .int .i64 0, .int .i64 0, .string ⟨#[]⟩] 28 (0, 0))).alloc (.cells #[.int .i64 3, .int .i64 4, .int .i64 6, .int .i64 6, .int .i64 21000, .string ⟨#[120]⟩] 28 (0, 0))) T2 28
    have hz : ((w4.alloc (.cells #[.int .i64 0, .int .i64 0, .int .i64 0, .int .i64 0, .int .i64 0, .string ⟨#[]⟩] 28 (0, 0))).alloc (.cells #[.int .i64 3, .int .i64 4, .int .i64 6, .int .i64 6, .int .i64 21000, .string ⟨#[120]⟩] 28 (0, 0))).heap.size = w4.heap.size + 2 := by show ((w4.heap.push _).push _).size = _; simp
    rw [hz] at h
    exact h
  obtain ⟨e0, e1, e2, e3, e4, e5, _⟩ := _root_.id B1
  obtain ⟨f0, f1, f2, f3, f4, f5, _⟩ := _root_.id B4
  obtain ⟨g0, g1, g2, g3, g4, g5, _⟩ := _root_.id B8
  obtain ⟨h0, h1, h2, h3, h4, h5, _⟩ := _root_.id B9
  simp only [T0, T1, T2] at e0 e1 e2 e3 e4 e5 f0 f1 f2 f3 f4 f5 g0 g1 g2 g3 g4 g5 h0 h1 h2 h3 h4 h5
  clear hl
  go_wp2_with fail
  generalize ((w4.alloc (.cells #[.int .i64 0, .int .i64 0, .int .i64 0, .int .i64 0, .int .i64 0, .string ⟨#[]⟩] 28 (0, 0))).alloc (.cells #[.int .i64 3, .int .i64 4, .int .i64 6, .int .i64 6, .int .i64 21000, .string ⟨#[120]⟩] 28 (0, 0))).alloc (.cells #[.int .i64 3, .int .i64 4, .int .i64 5, .int .i64 4, .int .i64 21000, .string ⟨#[120]⟩] 28 (0, 0)) = w5 at B1 B8 B9 hM hbel ⊢
  clear B4 c0 c1 c2 c3 c4 c5 e0 e1 e2 e3 e4 e5 f0 f1 f2 f3 f4 f5 g0 g1 g2 g3 g4 g5 h0 h1 h2 h3 h4 h5
  refine (bet10 _ hM).mono ?_
  rintro e w6 ⟨rfl, hb1⟩
  have B1 := B1.later hb1
  have B8 := B8.later hb1
  have B9 := B9.later hb1
  have hM := hM.later hb1
  have hbel := later hbel hb1
  clear hb1
  obtain ⟨e0, e1, e2, e3, e4, e5, _⟩ := _root_.id B1
  obtain ⟨g0, g1, g2, g3, g4, g5, _⟩ := _root_.id B8
  obtain ⟨h0, h1, h2, h3, h4, h5, _⟩ := _root_.id B9
  simp only [T0, T1, T2] at e0 e1 e2 e3 e4 e5 g0 g1 g2 g3 g4 g5 h0 h1 h2 h3 h4 h5
  go_wp2_with fail
  clear e0 e1 e2 e3 e4 e5 g0 g1 g2 g3 g4 g5 h0 h1 h2 h3 h4 h5
  refine (bet01 _ hM).mono ?_
  rintro e w7 ⟨rfl, hb1⟩
  have B1 := B1.later hb1
  have B8 := B8.later hb1
  have B9 := B9.later hb1
  have hM := hM.later hb1
  have hbel := later hbel hb1
  clear hb1
  obtain ⟨e0, e1, e2, e3, e4, e5, _⟩ := _root_.id B1
  obtain ⟨g0, g1, g2, g3, g4, g5, _⟩ := _root_.id B8
  obtain ⟨h0, h1, h2, h3, h4, h5, _⟩ := _root_.id B9
  simp only [T0, T1, T2] at e0 e1 e2 e3 e4 e5 g0 g1 g2 g3 g4 g5 h0 h1 h2 h3 h4 h5
  go_wp2_with fail
  clear e0 e1 e2 e3 e4 e5 g0 g1 g2 g3 g4 g5 h0 h1 h2 h3 h4 h5
  refine (bet00 _ hM).mono ?_
  rintro e w8 ⟨rfl, hb1⟩
  have B1 := B1.later hb1
  have B8 := B8.later hb1
  have B9 := B9.later hb1
  have hM := hM.later hb1
  have hbel := later hbel hb1
  clear hb1
  obtain ⟨e0, e1, e2, e3, e4, e5, _⟩ := _root_.id B1
  obtain ⟨g0, g1, g2, g3, g4, g5, _⟩ := _root_.id B8
  obtain ⟨h0, h1, h2, h3, h4, h5, _⟩ := _root_.id B9
  simp only [T0, T1, T2] at e0 e1 e2 e3 e4 e5 g0 g1 g2 g3 g4 g5 h0 h1 h2 h3 h4 h5
  go_wp2_with fail
  clear e0 e1 e2 e3 e4 e5 g0 g1 g2 g3 g4 g5 h0 h1 h2 h3 h4 h5
  refine (chk0 _ hM).mono ?_
  rintro e w9 ⟨rfl, hb1⟩
  have B1 := B1.later hb1
  have B8 := B8.later hb1
  have B9 := B9.later hb1
  have hM := hM.later hb1
  have hbel := later hbel hb1
  clear hb1
  obtain ⟨e0, e1, e2, e3, e4, e5, _⟩ := _root_.id B1
  obtain ⟨g0, g1, g2, g3, g4, g5, _⟩ := _root_.id B8
  obtain ⟨h0, h1, h2, h3, h4, h5, _⟩ := _root_.id B9
  simp only [T0, T1, T2] at e0 e1 e2 e3 e4 e5 g0 g1 g2 g3 g4 g5 h0 h1 h2 h3 h4 h5
  go_wp2_with fail
  clear e0 e1 e2 e3 e4 e5 g0 g1 g2 g3 g4 g5 h0 h1 h2 h3 h4 h5
  refine (chk2 _ hM).mono ?_
  rintro e w10 ⟨rfl, hb1⟩
  have B1 := B1.later hb1
  have B8 := B8.later hb1
  have B9 := B9.later hb1
  have hM := hM.later hb1
  have hbel := later hbel hb1
  clear hb1
  obtain ⟨e0, e1, e2, e3, e4, e5, _⟩ := _root_.id B1
  obtain ⟨g0, g1, g2, g3, g4, g5, _⟩ := _root_.id B8
  obtain ⟨h0, h1, h2, h3, h4, h5, _⟩ := _root_.id B9
  simp only [T0, T1, T2] at e0 e1 e2 e3 e4 e5 g0 g1 g2 g3 g4 g5 h0 h1 h2 h3 h4 h5
  go_wp2_with fail
  clear e0 e1 e2 e3 e4 e5 g0 g1 g2 g3 g4 g5 h0 h1 h2 h3 h4 h5
  refine (slt0 _ hM).mono ?_
  rintro e w11 ⟨rfl, hb1⟩
  have B1 := B1.later hb1
  have B8 := B8.later hb1
  have B9 := B9.later hb1
  have hM := hM.later hb1
  have hbel := later hbel hb1
  clear hb1
  obtain ⟨e0, e1, e2, e3, e4, e5, _⟩ := _root_.id B1
  obtain ⟨g0, g1, g2, g3, g4, g5, _⟩ := _root_.id B8
  obtain ⟨h0, h1, h2, h3, h4, h5, _⟩ := _root_.id B9
  simp only [T0, T1, T2] at e0 e1 e2 e3 e4 e5 g0 g1 g2 g3 g4 g5 h0 h1 h2 h3 h4 h5
  go_wp2_with fail
  clear e0 e1 e2 e3 e4 e5 g0 g1 g2 g3 g4 g5 h0 h1 h2 h3 h4 h5
  refine (slt2 _ hM).mono ?_
  rintro e w12 ⟨rfl, hb1⟩
  have B1 := B1.later hb1
  have B8 := B8.later hb1
  have B9 := B9.later hb1
  have hM := hM.later hb1
  have hbel := later hbel hb1
  clear hb1
  obtain ⟨e0, e1, e2, e3, e4, e5, _⟩ := _root_.id B1
  obtain ⟨g0, g1, g2, g3, g4, g5, _⟩ := _root_.id B8
  obtain ⟨h0, h1, h2, h3, h4, h5, _⟩ := _root_.id B9
  simp only [T0, T1, T2] at e0 e1 e2 e3 e4 e5 g0 g1 g2 g3 g4 g5 h0 h1 h2 h3 h4 h5
  go_wp2_with fail
  clear e0 e1 e2 e3 e4 e5 g0 g1 g2 g3 g4 g5 h0 h1 h2 h3 h4 h5
  refine (IDs.out _ hM).mono ?_
  rintro e w13 ⟨rfl, hb1⟩
  have B1 := B1.later hb1
  have B8 := B8.later hb1
  have B9 := B9.later hb1
  have hM := hM.later hb1
  have hbel := later hbel hb1
  clear hb1
  obtain ⟨e0, e1, e2, e3, e4, e5, _⟩ := _root_.id B1
  obtain ⟨g0, g1, g2, g3, g4, g5, _⟩ := _root_.id B8
  obtain ⟨h0, h1, h2, h3, h4, h5, _⟩ := _root_.id B9
  simp only [T0, T1, T2] at e0 e1 e2 e3 e4 e5 g0 g1 g2 g3 g4 g5 h0 h1 h2 h3 h4 h5
  go_wp2_with fail
  clear e0 e1 e2 e3 e4 e5 g0 g1 g2 g3 g4 g5 h0 h1 h2 h3 h4 h5
  refine (id2 _ hM).mono ?_
  rintro e w14 ⟨rfl, hb1⟩
  have B1 := B1.later hb1
  have B8 := B8.later hb1
  have B9 := B9.later hb1
  have hM := hM.later hb1
  have hbel := later hbel hb1
  clear hb1
  go_wp2_with fail
  go_ret
  exact ⟨rfl, hbel⟩
end Go.Proofs.YtedhkfkiopgmbaaDoor.txn
