/- Layer 3 of the document's own answer (hopperref03: TakeNumber, TakeText), by contract. -/
import Derived.Test.YtjhopkamfeadjaaDoorCodecRef
import Derived.OwnWalk
import Derived.Deep.QuietTactic
import Derived.BigQuiet
namespace Go.Proofs.YtjhopkamfeadjaaDoor.codec
open Go.RowKit
set_option linter.unusedVariables false

/-- What taking a number, or a text, tells. -/
def retNum : Option (Nat × List UInt8) → Value
  | none => .tuple #[.int .i64 0, .string ⟨#[]⟩, .bool false]
  | some (n, r) => .tuple #[.int .i64 n, .string ⟨r.toArray⟩, .bool true]
def retText : Option (List UInt8 × List UInt8) → Value
  | none => .tuple #[.string ⟨#[]⟩, .string ⟨#[]⟩, .bool false]
  | some (t, r) => .tuple #[.string ⟨t.toArray⟩, .string ⟨r.toArray⟩, .bool true]

theorem drawn_n (w : World) (n : Nat) : Below w.heap.size w (w.drewN n) := by
  induction n with
  | zero => exact Below.refl _ _
  | succ n ih => exact ih.drew
theorem drawn {a w : World} (h : Below a.heap.size a w) (n : Nat) : Below a.heap.size a (w.drewN n) := later h (drawn_n w n)

/-- A string's byte. -/
theorem str_at (s : ByteArray) (k : Nat) (i : Int) (hi : i = k) (a : UInt8) (h : s.data.toList[k]? = some a) (w : World) :
    (Instr.index 9 (.string s) (.int .i64 i)).run Tryd.prog w = .ok (.int .u8 a.toNat) w := by
  subst hi
  have hk : k < s.size := by
    have := (List.getElem?_eq_some_iff.1 h).1
    simpa using this
  have e : s[k] = a := by
    obtain ⟨h1, h2⟩ := List.getElem?_eq_some_iff.1 h
    show s.data[k] = a
    simpa using h2
  rw [run_index_string w 9 s .i64 k Tryd.underlying9, dif_pos (by omega)]
  simp [e]

theorem bytes_cut (s : ByteArray) (i j : Nat) : s.extract i j = ⟨((s.data.toList.take j).drop i).toArray⟩ := by
  apply ByteArray.ext
  apply Array.toList_inj.1
  simp [Array.toList_extract, List.extract, List.drop_take]
/-- A string cut out of another. -/
theorem str_cut (s : ByteArray) (i j : Nat) (x y : Int) (hx : x = i) (hy : y = j) (hij : i ≤ j) (hj : j ≤ s.size) (w : World) :
    (Instr.slice 9 (.string s) (some (.int .i64 x)) (some (.int .i64 y)) none).run Tryd.prog w = .ok (.string ⟨((s.data.toList.take j).drop i).toArray⟩) w := by
  subst hx hy
  rw [run_slice_string_if (w := w) 9 s .i64 .i64 i j Tryd.underlying9, if_pos (by omega), if_pos (by omega)]
  rw [bytes_cut]
  rfl
theorem str_from (s : ByteArray) (i : Nat) (x : Int) (hx : x = i) (hi : i ≤ s.size) (w : World) :
    (Instr.slice 9 (.string s) (some (.int .i64 x)) none none).run Tryd.prog w = .ok (.string ⟨(s.data.toList.drop i).toArray⟩) w := by
  subst hx
  rw [run_slice_string_l (w := w) 9 s Tryd.underlying9 .i64 i (by omega) (by omega)]
  rw [bytes_cut, List.take_of_length_le (by simp)]
  rfl
theorem str_to (s : ByteArray) (j : Nat) (y : Int) (hy : y = j) (hj : j ≤ s.size) (w : World) :
    (Instr.slice 9 (.string s) none (some (.int .i64 y)) none).run Tryd.prog w = .ok (.string ⟨(s.data.toList.take j).toArray⟩) w := by
  subst hy
  rw [run_slice_string_h (w := w) 9 s Tryd.underlying9 .i64 j (by omega) (by omega)]
  rw [bytes_cut]
  rfl

end Go.Proofs.YtjhopkamfeadjaaDoor.codec
