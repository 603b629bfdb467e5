/- The document's own Decode (hopperref04), by contract. -/
import Derived.Test.YtedhkfkiopgmbaaDoorTxnDec
import Derived.Test.YtedhkfkiopgmbaaDoorTxnREnc
namespace Go.Proofs.YtedhkfkiopgmbaaDoor.txn
open Go.RowKit codec
set_option linter.unusedVariables false
set_option linter.unusedSimpArgs false

/-- A block of an array, and what it holds. -/
def IBlk (w : World) (b : Nat) (l : List Value) : Prop := w.heap[b]? = some (.cells l.toArray 82 (0, 0))
theorem IBlk.lt {w : World} {b : Nat} {l : List Value} (h : IBlk w b l) : b < w.heap.size := by
  unfold IBlk at h
  exact (Array.getElem?_eq_some_iff.1 h).1
theorem IBlk.later {w w' : World} {b : Nat} {l : List Value} (h : IBlk w b l) (k : Below w.heap.size w w') : IBlk w' b l := (k.block b h.lt).trans h
theorem IBlk.cell {w : World} {b : Nat} {l : List Value} (h : IBlk w b l) (i : Nat) (v : Value) (hi : l[i]? = some v) : w.cell? ⟨b, i, none⟩ = some v := by
  unfold IBlk at h
  simp only [World.cell?, h]
  simpa using hi
theorem IBlk.thaw {w : World} {b : Nat} {l : List Value} (h : IBlk w b l) (i : Nat) : w.frozen? ⟨b, i, none⟩ = false := by
  unfold IBlk at h
  simp [World.frozen?, h]
theorem IBlk.put {w : World} {b : Nat} {l : List Value} (h : IBlk w b l) (i : Nat) (v : Value) : IBlk (w.setCell ⟨b, i, none⟩ v) b (l.set i v) := by
  unfold IBlk at h ⊢
  rw [heap_setCell_same w b i _ _ v h]
  simp
theorem IBlk.aside {w : World} {b : Nat} {l : List Value} (h : IBlk w b l) (b' i : Nat) (hb : b' ≠ b) (v : Value) : IBlk (w.setCell ⟨b', i, none⟩ v) b l := by
  unfold IBlk at h ⊢
  rw [Below.heap_setCell w _ v b (by simpa using hb.symm)]
  exact h

theorem TBlk.side {w : World} {b : Nat} {l : List Value} (h : TBlk w b l) (b' i : Nat) (hb : b' ≠ b) (v : Value) : TBlk (w.setCell ⟨b', i, none⟩ v) b l := h.aside b' i hb v

end Go.Proofs.YtedhkfkiopgmbaaDoor.txn
