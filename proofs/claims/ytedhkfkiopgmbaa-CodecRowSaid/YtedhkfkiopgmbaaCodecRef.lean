/- Layer 3 of the document's own answer (hopperref03: bytes, Number, Text), by contract. -/
import Derived.Test.YtedhkfkiopgmbaaChecked
import Derived.Test.YtedhkfkiopgmbaaCodecPlain
import Derived.WalkKit
import Derived.ProofKit
import Derived.WalkLawsBesides
import Derived.WalkSpells
import Derived.WalkMore
import Derived.Lib.Hide
import Derived.Laws.Rows
import Derived.Laws.BytesString
import Derived.Laws.IdiomStrings
import Derived.Laws.Cells
namespace Go.Proofs.Ytedhkfkiopgmbaa.codec
open Go.RowKit
set_option linter.unusedVariables false

theorem cell_own (w : World) (t : TypeId) (l : List Value) (m : Nat × Nat) (j : Nat) (hj : j < l.length) : (w.alloc (.cells l.toArray t m)).cell? ⟨w.heap.size, j, none⟩ = some l[j] := by
  have B : (w.alloc (.cells l.toArray t m)).heap[w.heap.size]? = some (.cells l.toArray t m) := by show (w.heap.push _)[w.heap.size]? = _; simp
  simp only [World.cell?, B]
  simp [hj]

/-- A text out of a list of bytes that was just built. -/
theorem built (w : World) (l : List UInt8) (t : TypeId) (m : Nat × Nat) (cap : Nat) :
    (convert 34 9 (.slice (some ⟨w.heap.size, 0, none⟩) l.length cap)).run Try.prog (w.alloc (.cells (l.map fun b => Value.int .u8 b.toNat).toArray t m)) = .ok (.string ⟨l.toArray⟩) (w.alloc (.cells (l.map fun b => Value.int .u8 b.toNat).toArray t m)) := by
  refine run_convert_bytes_back _ _ _ 5 _ cap l Try.underlying34 Try.underlying5 Try.underlying9 ?_
  intro j hj
  have e : (⟨w.heap.size, 0, none⟩ : Addr).add j = ⟨w.heap.size, j, none⟩ := by unfold Addr.add; split <;> simp_all
  rw [e, cell_own _ _ _ _ j (by simpa using hj)]
  simp

theorem byte_int (n : Nat) : ((UInt8.ofNat n).toNat : Int) = (n : Int) % 256 := by
  rw [UInt8.toNat_ofNat']
  omega

theorem built_one (n : Nat) (x : Int) (hx : x = (n : Int) % 256) (w : World) :
    (convert 34 9 (.slice (some ⟨w.heap.size, 0, none⟩) 1 1)).run Try.prog (w.alloc (.cells #[.int .u8 x] 5 (0, 0))) = .ok (.string ⟨#[UInt8.ofNat n]⟩) (w.alloc (.cells #[.int .u8 x] 5 (0, 0))) := by
  rw [hx, ← byte_int]
  exact built w [UInt8.ofNat n] 5 (0, 0) 1

theorem built_two (n : Nat) (h : n ≤ 65535) (w : World) :
    (convert 34 9 (.slice (some ⟨w.heap.size, 0, none⟩) 2 2)).run Try.prog (w.alloc (.cells #[.int .u8 ((n : Int) / 256), .int .u8 ((n : Int) % 256)] 5 (0, 0))) = .ok (.string ⟨(spell 2 n).toArray⟩) (w.alloc (.cells #[.int .u8 ((n : Int) / 256), .int .u8 ((n : Int) % 256)] 5 (0, 0))) := by
  have e : (n : Int) / 256 = ((UInt8.ofNat (n / 256)).toNat : Int) := by rw [UInt8.toNat_ofNat']; omega
  rw [e, ← byte_int]
  exact built w [UInt8.ofNat (n / 256), UInt8.ofNat n] 5 (0, 0) 2

theorem size_small (n : Nat) (h : n < 256) : spell (size n) n = [UInt8.ofNat n] := by
  have e : size n = 1 := by rw [size, if_pos h]
  rw [e]
  rfl
theorem size_more (n : Nat) (h : ¬ n < 256) : spell (size n) n = spell (size (n / 256)) (n / 256) ++ [UInt8.ofNat n] := by
  have e : size n = size (n / 256) + 1 := by rw [size, if_neg h]
  rw [e]
  rfl
theorem ret_str {a b : ByteArray} (h : a = b) : Ending.returned (.string a) = .returned (.string b) := by rw [h]
theorem arr_append (a b : List UInt8) : (⟨a.toArray⟩ : ByteArray) ++ ⟨b.toArray⟩ = ⟨(a ++ b).toArray⟩ := by
  apply ByteArray.ext
  simp

theorem later {a w w' : World} (h : Below a.heap.size a w) (k : Below w.heap.size w w') : Below a.heap.size a w' := h.trans (k.mono h.size)
theorem laid {a w : World} (h : Below a.heap.size a w) (o : Obj) : Below a.heap.size a (w.alloc o) := h.alloc h.size o

end Go.Proofs.Ytedhkfkiopgmbaa.codec
