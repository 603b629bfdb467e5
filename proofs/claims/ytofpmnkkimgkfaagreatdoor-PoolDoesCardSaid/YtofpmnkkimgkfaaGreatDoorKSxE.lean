/- An own block is forgotten, and those behind it move up: loops whose rounds make a block anew. -/
import Derived.Test.YtofpmnkkimgkfaaGreatDoorKSxO
set_option linter.all false
set_option maxHeartbeats 4000000
set_option maxRecDepth 100000
namespace Go.Proofs.YtofpmnkkimgkfaaGreatDoor.Sx
open Go.RowKit
def shT (i : Nat) : T → T
 | .p b o => if b = i then .any else .p (if b < i then b else b - 1) o
 | .s b n => if b = i then .any else .s (if b < i then b else b - 1) n
 | .fn _ _ => .any
 | x => x
theorem get_sh {β : List Nat} {b i g : Nat} (h : β[b]? = some g) (hb : b ≠ i) : (β.eraseIdx i)[if b < i then b else b - 1]? = some g := by
 rw [List.getElem?_eraseIdx]
 by_cases hc : b < i
 ·rw [if_pos hc, if_pos hc]; exact h
 ·rw [if_neg hc, if_neg (by omega), show b - 1 + 1 = b by omega]; exact h
theorem Rel.sh {β : List Nat} {ρ : List Value} (i : Nat) {x : T} {y : Value} (h : Rel β ρ x y) : Rel (β.eraseIdx i) ρ (shT i x) y := by
 cases x with
 | p b o =>
  show Rel _ _ (if b = i then T.any else T.p (if b < i then b else b - 1) o) y
  by_cases hb : b = i
  ·rw [if_pos hb]; trivial
  ·rw [if_neg hb]
   obtain ⟨g, hg, rfl⟩ := h
   exact ⟨g, get_sh hg hb, rfl⟩
 | s b n =>
  show Rel _ _ (if b = i then T.any else T.s (if b < i then b else b - 1) n) y
  by_cases hb : b = i
  ·rw [if_pos hb]; trivial
  ·rw [if_neg hb]
   obtain ⟨g, hg, rfl⟩ := h
   exact ⟨g, get_sh hg hb, rfl⟩
 | fn f caps => trivial
 | any => trivial
 | v x => exact h
 | r k => exact h
 | q k o => exact h
 | w k lo size => exact h
theorem Rels.sh {β : List Nat} {ρ : List Value} (i : Nat) {t : List T} {l : List Value} (h : Rels β ρ t l) : Rels (β.eraseIdx i) ρ (t.map (shT i)) l := by
 refine ⟨by simp [h.1], fun j z hz => ?_⟩
 rw [List.getElem?_map] at hz
 cases hj : t[j]? with
 | none => rw [hj] at hz; cases hz
 | some x =>
  rw [hj] at hz
  obtain ⟨u, hu, hr⟩ := h.2 j x hj
  cases hz
  exact ⟨u, hu, hr.sh i⟩
def M.erase (m : M) (i : Nat) : M := ⟨(m.own.eraseIdx i).map fun q => q.map fun q => (q.1.map (shT i), q.2), m.rows, m.facts⟩
theorem Mem.erase {W : World} {G : Option Nat} {m : M} {β ρ} {w : World} (h : Mem W G m β ρ w) (i : Nat) : Mem W G (m.erase i) (β.eraseIdx i) ρ w where
 grown := h.grown
 nd := h.nd.sublist (List.eraseIdx_sublist β i)
 bl := by simp [M.erase, List.length_eraseIdx, h.bl]
 lo g hg := h.lo g (List.mem_of_mem_eraseIdx hg)
 own b cs ty hb := by
  simp only [M.erase, List.getElem?_map] at hb
  cases ho : (m.own.eraseIdx i)[b]? with
  | none => rw [ho] at hb; cases hb
  | some q =>
   rw [ho] at hb
   cases q with
   | none => cases hb
   | some q =>
    obtain ⟨cs0, e⟩ := q
    simp at hb
    obtain ⟨rfl, rfl⟩ := hb
    rw [List.getElem?_eraseIdx] at ho
    by_cases hc : b < i
    ·rw [if_pos hc] at ho
     obtain ⟨g, l, hg, hw, hr, h1⟩ := h.own _ cs0 e ho
     exact ⟨g, l, by rw [List.getElem?_eraseIdx, if_pos hc]; exact hg, hw, hr.sh i, h1⟩
    ·rw [if_neg hc] at ho
     obtain ⟨g, l, hg, hw, hr, h1⟩ := h.own _ cs0 e ho
     exact ⟨g, l, by rw [List.getElem?_eraseIdx, if_neg hc]; exact hg, hw, hr.sh i, h1⟩
 rl := h.rl
 row := h.row
 rb v hv g hg := ⟨fun hm => (h.rb v hv g hg).1 (List.mem_of_mem_eraseIdx hm), (h.rb v hv g hg).2⟩
 rows := h.rows
 fact φ hφ g hg := by
  obtain ⟨⟨h1, h2⟩, h3⟩ := h.fact φ hφ g hg
  refine ⟨⟨fun b hb => ?_, h2⟩, h3⟩
  rw [List.getElem?_eraseIdx] at hb
  have h5 : ((m.own.eraseIdx i)[b]?).join = none := by
   rw [List.getElem?_eraseIdx]
   by_cases hc : b < i
   ·rw [if_pos hc] at hb ⊢; exact h1 b hb
   ·rw [if_neg hc] at hb ⊢; exact h1 _ hb
  simp only [M.erase, List.getElem?_map]
  generalize (m.own.eraseIdx i)[b]? = q at h5
  cases q with
  | none => rfl
  | some q =>
   cases q with
   | none => rfl
   | some q => cases h5
def M.erases (m : M) : List Nat → M
 | [] => m
 | i :: l => (m.erase i).erases l
def shTs (t : List T) : List Nat → List T
 | [] => t
 | i :: l => shTs (t.map (shT i)) l
def eraseB (β : List Nat) : List Nat → List Nat
 | [] => β
 | i :: l => eraseB (β.eraseIdx i) l
theorem Mem.erases {W : World} {G : Option Nat} {w : World} {ρ : List Value} : ∀ (is : List Nat) {m : M} {β : List Nat}, Mem W G m β ρ w → Mem W G (m.erases is) (eraseB β is) ρ w
 | [], m, β, h => h
 | i :: is, m, β, h => Mem.erases is (h.erase i)
theorem Rels.shs {ρ : List Value} {l : List Value} : ∀ (is : List Nat) {β : List Nat} {t : List T}, Rels β ρ t l → Rels (eraseB β is) ρ (shTs t is) l
 | [], β, t, h => h
 | i :: is, β, t, h => Rels.shs is (h.sh i)
section
variable {P : Program} {W : World} {G : Option Nat} {Q : Ending → World → Prop} {ds : List Deferred}
theorem loop_ruleE {E : Env} (hE : E.Ok P) (sch : List (Nat × (Ord × List Nat))) {body : Code} (hs : schedOk sch body = true) {m : M} {t : List T} {k : Exit → M → List T → Tree} (i0b : List Nat) {ι : Type} (ok : ι → Prop) (I : ι → M × List T) (μ : ι → Nat) (i0 : ι) (k0 : ok i0)
  (h0 : Le m t (I i0).1 (I i0).2)
  (round : ∀ i, ok i → (exec E sch body (I i).1 (I i).2 (fun e m' t' => match e with | .normal => .done (∃ j, ok j ∧ Le (m'.erases i0b) (shTs t' i0b) (I j).1 (I j).2 ∧ μ j < μ i) | e => k e m' t')).wpD P W G Q ds) :
  (Tree.loop body m t k).wpD P W G Q ds := by
 intro β ρ a w hm hr hd
 refine wp_loop_ghost (fun n a w => ∃ i β ρ, ok i ∧ μ i = n ∧ Mem W G (I i).1 β ρ w ∧ Rels β ρ (I i).2 a.tmps.toList ∧ a.defers = ds) (μ i0) ⟨i0, _, _, k0, rfl, (h0.use hm hr).1, (h0.use hm hr).2, hd⟩ ?_
 rintro n a w ⟨i, β, ρ, hi, rfl, hm, hr, hd⟩
 refine exec_sound hE sch body hs _ _ _ _ β ρ a w ?_ hm hr hd (round i hi)
 intro e m' t' hh β ρ a w hm hr hd
 cases e with
 | normal =>
  obtain ⟨j, hj, hle, hlt⟩ := hh
  exact ⟨μ j, hlt, j, _, _, hj, rfl, (hle.use (hm.erases i0b) (hr.shs i0b)).1, (hle.use (hm.erases i0b) (hr.shs i0b)).2, hd⟩
 | _ => exact ⟨m', t', β, ρ, hm, hr, hd, hh⟩
end
end Go.Proofs.YtofpmnkkimgkfaaGreatDoor.Sx
