/- Layer 3 of the document's own answer (hopperref03: TakeNumber, TakeText), by contract. -/
import Derived.Test.YtofpmnkkimgkfaaDoorKCodecRef
import Derived.OwnWalk
import Derived.Deep.QuietTactic
import Derived.BigQuiet
set_option linter.all false
set_option maxHeartbeats 4000000
set_option maxRecDepth 100000
namespace Go.Proofs.YtofpmnkkimgkfaaDoor.codec
open Go.RowKit
def retNum : Option (Nat × List UInt8) → Value
 | none => .tuple #[.int .i64 0, .string ⟨#[]⟩, .bool false]
 | some (n, r) => .tuple #[.int .i64 n, .string ⟨r.toArray⟩, .bool true]
def retText : Option (List UInt8 × List UInt8) → Value
 | none => .tuple #[.string ⟨#[]⟩, .string ⟨#[]⟩, .bool false]
 | some (t, r) => .tuple #[.string ⟨t.toArray⟩, .string ⟨r.toArray⟩, .bool true]
theorem drawn_n (w : World) (n : Nat) : Below w.heap.size w (w.drewN n) := by
 induction n with
 | zero => exact Below.refl _ _
 | succ n ih => exact ih.drew
theorem drawn {a w : World} (h : Below a.heap.size a w) (n : Nat) : Below a.heap.size a (w.drewN n) := later h (drawn_n w n)
theorem rtake_short (s : ByteArray) (m : Int) (h : s.size < 2) (w : World) :
  Calls Tryd.prog 61 #[.string s, .int .i64 m] w fun e w' => e = .returned (retText none) ∧ w = w' := by
 have T : decide ((s.size : Int) < 2) = true := by simp; omega
 have hs : s.size ≤ 10 := by omega
 clear h
 go_enter Tryd.func61, Tryd.ntmps61
 go_wp2_with fail
 go_ret3
 exact ⟨rfl, rfl⟩
theorem str_at (s : ByteArray) (k : Nat) (i : Int) (hi : i = k) (a : UInt8) (h : s.data.toList[k]? = some a) (w : World) :
  (Instr.index 9 (.string s) (.int .i64 i)).run Tryd.prog w = .ok (.int .u8 a.toNat) w := by
 subst hi
 have hk : k < s.size := by
  have := (List.getElem?_eq_some_iff.1 h).1
  simpa using this
 have e : s[k] = a := by
  obtain ⟨h1, h2⟩ := List.getElem?_eq_some_iff.1 h
  show s.data[k] = a
  simpa using h2
 rw [run_index_string w 9 s .i64 k Tryd.underlying9, dif_pos (by omega)]
 simp [e]
theorem bytes_cut (s : ByteArray) (i j : Nat) : s.extract i j = ⟨((s.data.toList.take j).drop i).toArray⟩ := by
 apply ByteArray.ext
 apply Array.toList_inj.1
 simp [Array.toList_extract, List.extract, List.drop_take]
theorem str_cut (s : ByteArray) (i j : Nat) (x y : Int) (hx : x = i) (hy : y = j) (hij : i ≤ j) (hj : j ≤ s.size) (w : World) :
  (Instr.slice 9 (.string s) (some (.int .i64 x)) (some (.int .i64 y)) none).run Tryd.prog w = .ok (.string ⟨((s.data.toList.take j).drop i).toArray⟩) w := by
 subst hx hy
 rw [run_slice_string_if (w := w) 9 s .i64 .i64 i j Tryd.underlying9, if_pos (by omega), if_pos (by omega)]
 rw [bytes_cut]
 rfl
theorem str_from (s : ByteArray) (i : Nat) (x : Int) (hx : x = i) (hi : i ≤ s.size) (w : World) :
  (Instr.slice 9 (.string s) (some (.int .i64 x)) none none).run Tryd.prog w = .ok (.string ⟨(s.data.toList.drop i).toArray⟩) w := by
 subst hx
 rw [run_slice_string_l (w := w) 9 s Tryd.underlying9 .i64 i (by omega) (by omega)]
 rw [bytes_cut, List.take_of_length_le (by simp)]
 rfl
theorem str_to (s : ByteArray) (j : Nat) (y : Int) (hy : y = j) (hj : j ≤ s.size) (w : World) :
  (Instr.slice 9 (.string s) none (some (.int .i64 y)) none).run Tryd.prog w = .ok (.string ⟨(s.data.toList.take j).toArray⟩) w := by
 subst hy
 rw [run_slice_string_h (w := w) 9 s Tryd.underlying9 .i64 j (by omega) (by omega)]
 rw [bytes_cut]
 rfl
theorem rtake_high (s : ByteArray) (m : Int) (a b : UInt8) (n : Nat) (r : List UInt8) (e : Hid (s.data.toList = a :: b :: r)) (hn : Hid (256 * a.toNat + b.toNat = n)) (hs : s.size = r.length + 2) (hs2 : s.size ≤ maxLen) (hm : Hid (m < n)) (w : World) :
  Calls Tryd.prog 61 #[.string s, .int .i64 m] w fun e w' => e = .returned (retText none) ∧ Below w.heap.size w w' := by
 have T : decide ((s.size : Int) < 2) = false := by simp; omega
 have i0 := str_at s 0 0 rfl a (by rw [e.out]; rfl)
 have i1 := str_at s 1 1 rfl b (by rw [e.out]; rfl)
 have W : wrap64 (wrap64 (256 * wrap64 (a.toNat : Int)) + wrap64 (b.toNat : Int)) = (n : Int) := by
  have ha := a.toNat_lt
  have hb := b.toNat_lt
  have := hn.out
  simp only [wrap64]
  omega
 unfold maxLen at hs2
 have M : decide (m < (n : Int)) = true := by have := hm.out; simp; omega
 clear hs
 go_enter Tryd.func61, Tryd.ntmps61
 go_wp2_with fail
 go_quiet (fail)
 rw [W]
 go_wp2_with fail
 go_ret3
 exact ⟨rfl, drawn (Below.refl _ _) _⟩
theorem rtake_long (s : ByteArray) (m : Int) (a b : UInt8) (n : Nat) (r : List UInt8) (e : Hid (s.data.toList = a :: b :: r)) (hn : Hid (256 * a.toNat + b.toNat = n)) (hs : s.size = r.length + 2) (hs2 : s.size ≤ maxLen) (hm : Hid (¬ m < n)) (hl : Hid (r.length < n)) (w : World) :
  Calls Tryd.prog 61 #[.string s, .int .i64 m] w fun e w' => e = .returned (retText none) ∧ Below w.heap.size w w' := by
 have T : decide ((s.size : Int) < 2) = false := by simp; omega
 have i0 := str_at s 0 0 rfl a (by rw [e.out]; rfl)
 have i1 := str_at s 1 1 rfl b (by rw [e.out]; rfl)
 have W : wrap64 (wrap64 (256 * wrap64 (a.toNat : Int)) + wrap64 (b.toNat : Int)) = (n : Int) := by
  have ha := a.toNat_lt
  have hb := b.toNat_lt
  have := hn.out
  simp only [wrap64]
  omega
 unfold maxLen at hs2
 have M : decide (m < (n : Int)) = false := by have := hm.out; simp; omega
 have L : decide ((s.size : Int) - 2 < (n : Int)) = true := by have := hl.out; simp; omega
 clear hs
 go_enter Tryd.func61, Tryd.ntmps61
 go_wp2_with fail
 go_quiet (fail)
 rw [W]
 go_wp2_with fail
 go_ret3
 exact ⟨rfl, drawn (Below.refl _ _) _⟩
theorem rtake_in (s : ByteArray) (m : Int) (a b : UInt8) (n : Nat) (r : List UInt8) (e : Hid (s.data.toList = a :: b :: r)) (hn : Hid (256 * a.toNat + b.toNat = n)) (hs : s.size = r.length + 2) (hs2 : s.size ≤ maxLen) (hm : Hid (¬ m < n)) (hl : Hid (n ≤ r.length)) (w : World) :
  Calls Tryd.prog 61 #[.string s, .int .i64 m] w fun e w' => e = .returned (retText (some (r.take n, r.drop n))) ∧ Below w.heap.size w w' := by
 have T : decide ((s.size : Int) < 2) = false := by simp; omega
 have i0 := str_at s 0 0 rfl a (by rw [e.out]; rfl)
 have i1 := str_at s 1 1 rfl b (by rw [e.out]; rfl)
 have W : wrap64 (wrap64 (256 * wrap64 (a.toNat : Int)) + wrap64 (b.toNat : Int)) = (n : Int) := by
  have ha := a.toNat_lt
  have hb := b.toNat_lt
  have := hn.out
  simp only [wrap64]
  omega
 unfold maxLen at hs2
 have M : decide (m < (n : Int)) = false := by have := hm.out; simp; omega
 have L : decide ((s.size : Int) - 2 < (n : Int)) = false := by have := hl.out; simp; omega
 have hw : IntKind.i64.wrap ((n : Int) + 2) = ((n + 2 : Nat) : Int) := by
  have := hl.out
  simp [IntKind.wrap, IntKind.signed, IntKind.bits]
  omega
 have S1 := str_cut s 2 (n + 2) 2 (IntKind.i64.wrap ((n : Int) + 2)) rfl hw (by omega) (by have := hl.out; omega)
 have S2 := str_from s (n + 2) (IntKind.i64.wrap ((n : Int) + 2)) hw (by have := hl.out; omega)
 clear hw
 rw [e.out] at S1 S2
 simp only [List.take_succ_cons, List.drop_succ_cons, List.drop_zero] at S1 S2
 clear hs
 go_enter Tryd.func61, Tryd.ntmps61
 go_wp2_with fail
 go_quiet (fail)
 rw [W]
 go_wp2_with fail
 go_quiet (fail)
 go_wp2_with fail
 go_ret3
 exact ⟨rfl, drawn (drawn (Below.refl _ _) _) _⟩
theorem rtaketext_any (s : ByteArray) (m : Int) (w : World) (hs : s.size ≤ maxLen) :
  Calls Tryd.prog 61 #[.string s, .int .i64 m] w fun e w' => e = .returned (retText (takeText s.data.toList m)) ∧ Below w.heap.size w w' := by
 have hsz : s.data.toList.length = s.size := by simp
 match hl : s.data.toList with
 | [] =>
  rw [hl] at hsz
  exact (rtake_short s m (by simp at hsz; omega) w).mono fun e w' ⟨he, hw⟩ => ⟨he, hw ▸ Below.refl _ _⟩
 | [a] =>
  rw [hl] at hsz
  exact (rtake_short s m (by simp at hsz; omega) w).mono fun e w' ⟨he, hw⟩ => ⟨he, hw ▸ Below.refl _ _⟩
 | a :: b :: r =>
  rw [hl] at hsz
  have hz : s.size = r.length + 2 := by simp at hsz; omega
  simp only [takeText]
  by_cases c1 : m < ((256 * a.toNat + b.toNat : Nat) : Int)
  ·rw [if_neg (by omega)]
   exact rtake_high s m a b _ r (Lib.hid hl) (Lib.hid rfl) hz hs (Lib.hid c1) w
  ·by_cases c2 : r.length < 256 * a.toNat + b.toNat
   ·rw [if_neg (by omega)]
    exact rtake_long s m a b _ r (Lib.hid hl) (Lib.hid rfl) hz hs (Lib.hid c1) (Lib.hid c2) w
   ·rw [if_pos (by omega)]
    exact rtake_in s m a b _ r (Lib.hid hl) (Lib.hid rfl) hz hs (Lib.hid c1) (Lib.hid (by omega)) w
end Go.Proofs.YtofpmnkkimgkfaaDoor.codec
