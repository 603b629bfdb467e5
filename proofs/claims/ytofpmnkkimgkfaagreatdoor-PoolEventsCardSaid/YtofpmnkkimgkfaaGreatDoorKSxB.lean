/- Appends left open in drawn regions: what the row's new place is apart from. -/
import Derived.Test.YtofpmnkkimgkfaaGreatDoorKSxx
set_option linter.all false
set_option maxHeartbeats 4000000
set_option maxRecDepth 100000
namespace Go.Proofs.YtofpmnkkimgkfaaGreatDoor.Sx
open Go.RowKit
section
variable {P : Program} {W : World} {G : Option Nat} {Q : Ending → World → Prop} {ds : List Deferred}
theorem op_appendF {E : Env} (hE : E.Ok P) {q : Option (List Fact)} {o : Oper} {m : M} {t : List T} {k : M → List T → T → Tree} {x y : Operand} {ty e : TypeId} {size bytes n b j : Nat} {v : Value} {xs news : List Value} {te : TypeId} (fs : List Fact)
  (ho : o.op = .call ⟨.builtin .append, #[x, y], #[ty, ty]⟩) (hrow : lk E.row ty = some (e, size, bytes)) (hx : ev t x = .v v) (hy : ev t y = .s b j) (hb : m.own[b]? = some (some (news.map T.v, te))) (hj : news.length = j * size)
  (hF : ownF v e size n xs ∈ m.facts) (hV : TV W v n) (hl : xs.length = n * size) (h63 : n + j ≤ maxLen) (hby : (n + j) * bytes ≤ 140737488355328)
  (hq : ∀ F, q = some F → v = .slice none 0 0 ∨ ∃ ψ ∈ F, ψ.g = v.ownBlock) (hfs : ∀ ψ ∈ fs, ψ ∈ m.facts ∧ ∀ g, ψ.g = some g → v.ownBlock ≠ some g)
  (h : ∀ v', TV W v' (n + j) → (∀ ψ ∈ fs, ∀ g, ψ.g = some g → v'.ownBlock ≠ some g) → (k { m with facts := ownF v' e size (n + j) (xs ++ news) :: fs } t (.v v')).wpD P W G Q ds) : (Tree.op q o m t k).wpD P W G Q ds := by
 intro β ρ a w hm hr K Q' hK
 obtain ⟨dst, op, ty', pos, after, guard⟩ := o
 simp only at ho
 subst ho
 have h1 := hr.ev x
 rw [hx] at h1
 have h1 : a.eval x = v := h1
 have h2 := hr.ev y
 rw [hy] at h2
 obtain ⟨g2, hg2, h2⟩ := h2
 obtain ⟨g3, l, hg3, hw3, hr3, ho3⟩ := hm.own b _ te hb
 rw [hg2] at hg3
 cases hg3
 have hr3 := vals_eqA hr3
 subst hr3
 obtain ⟨ht, i, z, hi, hz, hsize, hbb, hzs, hsz⟩ := hE.row ty e size bytes hrow
 have hown := own_of_fact hm hF hV hl
 obtain ⟨v', w', hrun, hown', hgr, hwhere⟩ := append_run (P := P) (w := w) ty ty' e i z size bytes ht hi hz hsize hbb hzs hsz hown (some ⟨g2, 0, none⟩) j j l hj (fun a0 ha0 jj u hu => by
  cases ha0
  simp only [add_mk, World.cell?]
  rw [hw3]
  simpa using hu) ho3 (fun hn => by cases hn) h63 hby hm.grown.size
 unfold Oper.wp
 have : (execOp a.eval ⟨dst, .call ⟨.builtin .append, #[x, y], #[ty, ty]⟩, ty', pos, after, guard⟩).run P w = .ok (.value v') w' := by
  simp [execOp, resolve, invoke, builtin, h1, h2, hrun]
 rw [this]
 have hTV := tv_of_own hown'
 have hfo := fact_of_own hown'
 have hnew : ∀ {w0 : World}, w0 = w → ∀ g, (ownF v' e size (n + j) (xs ++ l)).g = some g → v'.ownBlock = some w.heap.size → Apart m β ρ g := fun _ g hg he => by
  have e1 : g = w.heap.size := by
   have : v'.ownBlock = some g := hg
   rw [he] at this
   exact (Option.some.inj this).symm
  exact hm.apart (.inr (.inl (by omega)))
 have hap : ∀ ψ ∈ fs, ∀ g, ψ.g = some g → v'.ownBlock ≠ some g := fun ψ hψ g hg e => by
  rcases hwhere with he | ⟨he, _⟩
  ·exact (hfs ψ hψ).2 g hg (he ▸ e)
  ·obtain ⟨_, o, ho, _⟩ := hm.fact ψ (hfs ψ hψ).1 g hg
   have h8 := (Array.getElem?_eq_some_iff.1 ho).1
   rw [he] at e
   cases e
   omega
 rcases hV with ⟨rfl, hn⟩ | ⟨g, cap, rfl, hgW⟩
 ·have hbel : Below w.heap.size w w' := ⟨hgr.os, hgr.tape, hgr.output, hgr.size, fun k hk => hgr.block k hk (by simp [Value.ownBlock])⟩
  refine hK _ t (.v v') β ρ w' v' (h v' hTV hap) ?_ hr rfl (fun F hq => ⟨rfl, rfl, .inl hbel⟩)
  have h5 : Mem W G { m with facts := fs } β ρ w' := by
   have := hm.grow hbel
   exact ⟨this.grown, this.nd, this.bl, this.lo, this.own, this.rl, this.row, this.rb, this.rows, fun φ hφ => this.fact φ (hfs φ hφ).1⟩
  refine h5.learn [ownF v' e size (n + j) (xs ++ l)] fun φ hφ g hg => ?_
  simp only [List.mem_singleton] at hφ
  subst hφ
  refine ⟨?_, (hfo g hg).2⟩
  rcases hwhere with he | ⟨he, _⟩
  ·have h7 : v'.ownBlock = some g := hg
   rw [he] at h7
   cases h7
  ·exact hnew rfl g hg he
 ·refine hK _ t (.v v') β ρ w' v' (h v' hTV hap) ?_ hr rfl (fun F hF' => ⟨rfl, rfl, .inr ?_⟩)
  ·rcases hwhere with he | ⟨he, _⟩
   ·refine hm.turn hF rfl (.inl hgW) hgr fun ψ hψ => ?_
    rcases List.mem_cons.1 hψ with rfl | hψ
    ·exact .inr ⟨he, (hfo g he).2⟩
    ·refine .inl ⟨(hfs ψ hψ).1, fun hg => (hfs ψ hψ).2 g hg rfl⟩
   ·have h5 : Mem W G { m with facts := fs } β ρ w' := hm.turn hF rfl (.inl hgW) hgr fun ψ hψ => .inl ⟨(hfs ψ hψ).1, fun hg => (hfs ψ hψ).2 g hg rfl⟩
    refine h5.learn [ownF v' e size (n + j) (xs ++ l)] fun φ hφ g hg => ?_
    simp only [List.mem_singleton] at hφ
    subst hφ
    exact ⟨hnew rfl g hg he, (hfo g hg).2⟩
  ·rcases hq F hF' with h | ⟨ψ, h1, h2⟩
   ·cases h
   ·exact ⟨ψ, h1, g, h2, .inl hgW, hgr⟩
end
end Go.Proofs.YtofpmnkkimgkfaaGreatDoor.Sx
