/- Rows that came in: where they lie. -/
import Derived.Test.YtofpmnkkimgkfaaGreatDoorKRow
set_option linter.all false
set_option maxHeartbeats 4000000
set_option maxRecDepth 100000
namespace Go.Proofs.YtofpmnkkimgkfaaGreatDoor.Sx
open Go.RowKit
theorem at_of_cells {W : World} {b off : Nat} {xs : List Value} (h0 : 0 < xs.length) (h : ∀ (i : Nat) (u : Value), xs[i]? = some u → W.cell? ⟨b, off + i, none⟩ = some u) : At W (some ⟨b, off, none⟩) xs := by
 have h1 := h 0 xs[0] (List.getElem?_eq_getElem h0)
 intro g hg
 cases hg
 show ∃ o, W.heap[b]? = some o ∧ _
 cases ho : W.heap[b]? with
 | none => simp [World.cell?, ho] at h1
 | some o =>
  cases o with
  | cells cur e fr =>
   refine ⟨_, rfl, fun ad had => ?_⟩
   cases had
   refine ⟨rfl, cur, e, fr, rfl, fun j u hu => ?_⟩
   have := h j u hu
   simpa [World.cell?, ho] using this
  | _ => simp [World.cell?, ho] at h1
theorem at_none {W : World} {xs : List Value} : At W none xs := fun g hg => by cases hg
theorem at_pt {W : World} {a : Addr} {n : Nat} {xs : List Value} (h1 : n ≠ 0 → 0 < xs.length) (h : ∀ (i : Nat) (u : Value), xs[i]? = some u → W.cell? (a.add i) = some u) : At W (pt (some a) n) xs := by
 by_cases h0 : n = 0
 ·rw [show pt (some a) n = none from if_pos h0]
  exact at_none
 ·rw [show pt (some a) n = some a from if_neg h0]
  have hp := h1 h0
  have hz := h 0 xs[0] (List.getElem?_eq_getElem hp)
  obtain ⟨b, off, sp⟩ := a
  have hsp : sp = none := by simpa [Addr.add] using World.cell?_spot hz
  subst hsp
  exact at_of_cells hp fun i u hu => by have := h i u hu; rwa [Sx.add_mk] at this
end Go.Proofs.YtofpmnkkimgkfaaGreatDoor.Sx
