/- Layer 3 (codec: TakeNumber, TakeText), by contract. -/
import Derived.Test.YtjhopkamfeadjaaDoorCodecPart
namespace Go.Proofs.YtjhopkamfeadjaaDoor.codec
open Go.RowKit
set_option linter.unusedVariables false
set_option linter.unusedSimpArgs false

/-- '[]byte(s)': a new block that holds the bytes. -/
theorem bytes_of (h : List UInt8) (w : World) : ∃ cap w0, (convert 9 88 (.string ⟨h.toArray⟩)).run Tryd.prog w = .ok (.slice (some ⟨w.heap.size, 0, none⟩) h.length cap) w0 ∧
    h.length ≤ cap ∧ BytesAt w0 w.heap.size 0 h ∧ Below w.heap.size w w0 ∧ w.heap.size < w0.heap.size := by
  have hr := run_bytes_of_string (P := Tryd.prog) w 9 88 5 ⟨h.toArray⟩ Tryd.underlying9 Tryd.underlying88 Tryd.underlying5
  have hs : (⟨h.toArray⟩ : ByteArray).size = h.length := rfl
  rw [hs] at hr
  refine ⟨_, _, hr, ?_, ?_, (Below.refl _ _).drew.alloc (Nat.le_refl _) _, ?_⟩
  · exact grownCap_ge _ _ _ _
  · intro j hj
    have B : ∀ o : Obj, (w.drew.alloc o).heap[w.heap.size]? = some o := fun o => by show (w.heap.push o)[w.heap.size]? = _; simp
    simp only [World.cell?, B, Nat.zero_add]
    simp only [bytesRow]
    rw [Array.getElem?_append_left (by simpa using hj)]
    simp [hj]
  · show w.heap.size < (w.heap.push _).size
    simp

theorem wholeI_bd (l : List UInt8) : -9223372036854775808 ≤ wholeI l ∧ wholeI l ≤ 9223372036854775807 := by
  unfold wholeI wrap64
  omega
theorem wholeI_lt (l : List UInt8) : wholeI l < 9223372036854775808 := by
  unfold wholeI wrap64
  omega
/-- What the code tells, in its own words. -/
def codeNum (b : UInt8) (r : List UInt8) (m : Int) : Option (Nat × List UInt8) :=
  if wholeI (r.take b.toNat) ≤ m ∧ numV (wholeI (r.take b.toNat)) = b :: r.take b.toNat then some ((wholeI (r.take b.toNat)).toNat, r.drop b.toNat) else none

theorem codeNum_eq (b : UInt8) (r : List UInt8) (m : Int) (h : b.toNat ≤ 8) (hr : b.toNat ≤ r.length) : codeNum b r m = takeNum (b :: r) m := by
  have hlen : (r.take b.toNat).length = b.toNat := by rw [List.length_take]; omega
  unfold codeNum
  simp only [takeNum]
  by_cases c : whole (r.take b.toNat) < 9223372036854775808
  · rw [wholeI_low _ c]
    have ht := num_test b (r.take b.toNat) hlen.symm (by omega)
    rw [hlen] at ht
    have hp := size_pos (whole (r.take b.toNat))
    have e : ((whole (r.take b.toNat) : Int) ≤ m ∧ numV (whole (r.take b.toNat) : Int) = b :: r.take b.toNat) ↔ (1 ≤ b.toNat ∧ b.toNat ≤ 8 ∧ b.toNat ≤ r.length ∧ size (whole (r.take b.toNat)) = b.toNat ∧ whole (r.take b.toNat) < 9223372036854775808 ∧ (whole (r.take b.toNat) : Int) ≤ m) := by
      unfold numV
      rw [if_neg (by omega), Int.toNat_natCast, ht]
      exact ⟨fun ⟨h1, h2⟩ => ⟨by omega, h, hr, h2, c, h1⟩, fun ⟨_, _, _, h2, _, h1⟩ => ⟨h1, h2⟩⟩
    simp only [e, Int.toNat_natCast]
  · rw [if_neg ?_, if_neg (fun g => c g.2.2.2.2.1)]
    intro g
    have hlt := whole_lt (r.take b.toNat)
    rw [hlen] at hlt
    have : 256 ^ b.toNat ≤ 256 ^ 8 := Nat.pow_le_pow_right (by omega) h
    have hneg : wholeI (r.take b.toNat) < 0 := by
      unfold wholeI wrap64
      omega
    have := g.2
    unfold numV at this
    rw [if_pos hneg] at this
    cases this

end Go.Proofs.YtjhopkamfeadjaaDoor.codec
