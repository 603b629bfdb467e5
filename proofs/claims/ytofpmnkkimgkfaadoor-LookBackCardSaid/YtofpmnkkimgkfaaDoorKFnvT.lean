/- Layer 2's hash (fnv) and the document's own (hopperref02), by contract. -/
import Derived.Test.YtofpmnkkimgkfaaDoorChecked
import Derived.WalkKit
import Derived.ProofKit
import Derived.WalkLawsBesides
import Derived.WalkSpells
import Derived.WalkMore
import Derived.ScopeJumps
import Derived.Lib.Hide
import Derived.Laws.Rows
import Derived.Laws.BytesString
import Derived.Laws.Cells
set_option linter.all false
set_option maxHeartbeats 4000000
set_option maxRecDepth 100000
namespace Go.Proofs.YtofpmnkkimgkfaaDoor.fnv
open Go.RowKit
def hstep (v : Int) (b : UInt8) : Int := IntKind.u64.wrap (bits BinOp.xor IntKind.u64 v (IntKind.u64.wrap (b.toNat : Int)) * 1099511628211)
def hroll (h : Int) (l : List UInt8) : Int := l.foldl hstep h
def hof (l : List UInt8) : Int := hroll 14695981039346656037 l
theorem hroll_append (h : Int) (a b : List UInt8) : hroll h (a ++ b) = hroll (hroll h a) b := List.foldl_append
theorem take_snoc (s : ByteArray) (k : Nat) (h : k < s.size) : s.data.toList.take (k + 1) = s.data.toList.take k ++ [s[k]] := by
 rw [List.take_succ_eq_append_getElem (by simpa using h)]; rfl
theorem hroll_snoc (h : Int) (s : ByteArray) (k : Nat) (hk : k < s.size) : hroll h (s.data.toList.take (k + 1)) = hstep (hroll h (s.data.toList.take k)) s[k] := by
 rw [take_snoc s k hk, hroll_append]; rfl
theorem take_all (s : ByteArray) (k : Nat) (h : s.size ≤ k) : s.data.toList.take k = s.data.toList := List.take_of_length_le (by simpa using h)
theorem ret_int {k : IntKind} {a b : Int} (h : a = b) : Ending.returned (.int k a) = .returned (.int k b) := by rw [h]
def digit (n : Nat) : UInt8 := if n < 10 then UInt8.ofNat (48 + n) else UInt8.ofNat (87 + n)
def digits : Nat → Nat → List UInt8
 | 0, _ => []
 | n + 1, h => digits n (h / 16) ++ [digit (h % 16)]
theorem digits_len (n h : Nat) : (digits n h).length = n := by
 induction n generalizing h with
 | zero => rfl
 | succ n ih => simp [digits, ih]
def cellsOf (j : Nat) (l : List UInt8) : List Value := List.replicate j (.int .u8 0) ++ l.map (fun b => .int .u8 b.toNat)
theorem cells_set (m : Nat) (l : List UInt8) (d : UInt8) : (cellsOf (m + 1) l).toArray.setIfInBounds m (.int .u8 d.toNat) = (cellsOf m (d :: l)).toArray := by
 have : (cellsOf (m + 1) l).set m (.int .u8 d.toNat) = cellsOf m (d :: l) := by
  unfold cellsOf
  rw [List.replicate_succ', List.append_assoc, List.set_append_right _ _ (by simp)]
  simp
 rw [← this]
 simp
theorem cells_at (m : Nat) (l : List UInt8) : (cellsOf (m + 1) l).toArray[m]? = some (.int .u8 0) := by
 unfold cellsOf
 simp [List.getElem?_append]
theorem const_at (n : Nat) (hn : n < 16) (h : n < (⟨#[48, 49, 50, 51, 52, 53, 54, 55, 56, 57, 97, 98, 99, 100, 101, 102]⟩ : ByteArray).size) : (⟨#[48, 49, 50, 51, 52, 53, 54, 55, 56, 57, 97, 98, 99, 100, 101, 102]⟩ : ByteArray)[n] = digit n := by
 have e : ∀ m : Fin 16, (⟨#[48, 49, 50, 51, 52, 53, 54, 55, 56, 57, 97, 98, 99, 100, 101, 102]⟩ : ByteArray)[m.val]'(m.isLt) = digit m := by decide
 exact e ⟨n, hn⟩
theorem set_at {wr : World} {n m : Nat} {l : List UInt8} {d : UInt8} {v : Value} {t : TypeId} (hv : v = .int .u8 d.toNat) (B : wr.heap[n]? = some (.cells (cellsOf (m + 1) l).toArray t (0, 0))) :
  (wr.setCell ⟨n, m, none⟩ v).heap[n]? = some (.cells (cellsOf m (d :: l)).toArray t (0, 0)) := by
 rw [heap_setCell_same wr n m _ _ v B, hv, cells_set]
theorem push_all (l : List UInt8) (s : ByteArray) : (l.map fun b => (b.toNat : Int)).foldl (fun r n => r.push (UInt8.ofNat n.toNat)) s = ⟨(s.data.toList ++ l).toArray⟩ := by
 induction l generalizing s with
 | nil => cases s; simp
 | cons b l ih =>
  simp only [List.map_cons, List.foldl_cons, Int.toNat_natCast, UInt8.ofNat_toNat]
  rw [ih]
  simp [ByteArray.push]
theorem to_string {wr : World} {n : Nat} {l : List UInt8} {t : TypeId} (B : wr.heap[n]? = some (.cells (cellsOf 0 l).toArray t (0, 0))) (len cap : Nat) (hl : l.length = len) :
  (convert 103 9 (.slice (some ⟨n, 0, none⟩) len cap)).run Tryd.prog wr = .ok (.string ⟨l.toArray⟩) wr := by
 rw [run_convert_bytes_string wr _ _ 5 _ _ _ Tryd.underlying103 Tryd.underlying5 Tryd.underlying9]
 subst hl
 have h := run_bytesToString (P := Tryd.prog) wr ⟨n, 0, none⟩ l.length cap (l.map fun b => (b.toNat : Int)) ?_
 ·rw [h, push_all]
  rfl
 ·have hh := run_loadCells_list (P := Tryd.prog) wr ⟨n, 0, none⟩ ((l.map fun b => (b.toNat : Int)).map (Value.int .u8)) ?_
  ·simpa using hh
  ·intro j v hv
   have e : (⟨n, 0, none⟩ : Addr).add j = ⟨n, j, none⟩ := by unfold Addr.add; split <;> simp_all
   rw [e]
   simp only [World.cell?, B]
   simpa [cellsOf] using hv
theorem hstep_bd (v : Int) (b : UInt8) : 0 ≤ hstep v b ∧ hstep v b ≤ 18446744073709551615 := by
 unfold hstep
 generalize bits BinOp.xor IntKind.u64 v (IntKind.u64.wrap (b.toNat : Int)) * 1099511628211 = x
 simp [IntKind.wrap, IntKind.signed, IntKind.bits]
 omega
theorem hof_bd (l : List UInt8) : 0 ≤ hof l ∧ hof l ≤ 18446744073709551615 := by
 rcases List.eq_nil_or_concat l with rfl | ⟨l', b, rfl⟩
 ·show 0 ≤ (14695981039346656037 : Int) ∧ (14695981039346656037 : Int) ≤ 18446744073709551615
  omega
 ·unfold hof
  rw [List.concat_eq_append, hroll_append]
  exact hstep_bd _ b
end Go.Proofs.YtofpmnkkimgkfaaDoor.fnv
