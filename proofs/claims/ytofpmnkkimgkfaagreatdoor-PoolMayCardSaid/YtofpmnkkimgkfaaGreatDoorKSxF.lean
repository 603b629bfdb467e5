/- Functions that answer with a row of their own: the end of a walk keeps the row. -/
import Derived.Test.YtofpmnkkimgkfaaGreatDoorKSxR
set_option linter.all false
set_option maxHeartbeats 4000000
set_option maxRecDepth 100000
namespace Go.Proofs.YtofpmnkkimgkfaaGreatDoor.Sx
open Go.RowKit
section
variable {P : Program} {E : Env}
def retR (W : World) (G : Option Nat) (R : Ending → World → Prop) (n : Nat) (m : M) (t : List T) : Tree :=
 match get t n with
 | .r i => .done (∀ β ρ w v, Mem W G m β ρ w → ρ[i]? = some v → R (.returned v) w)
 | .v u => .ret u m
 | _ => .bad "a result: what"
def finishR (W : World) (G : Option Nat) (R : Ending → World → Prop) (n : Nat) : Exit → M → List T → Tree
 | .normal, m, t => retR W G R n m t
 | .ret, m, t => retR W G R n m t
 | _, _, _ => .bad "the end"
theorem calls_of_row (hE : E.Ok P) {f : FuncId} {fn : Func} {c : Code} (hf : P.funcs[f]? = some fn) (hb : fn.body = some c) (sch : List (Nat × (Ord × List Nat))) (hs : schedOk sch c = true) {args : List Value} {w : World} {G : Option Nat} {R : Ending → World → Prop} {n : Nat}
  (hres : fn.results.toList = [.tmp n]) (t : List T) (m : M) (ρ : List Value) (hm : Mem w G m [] ρ w) (ht : Rels [] ρ t args)
  (h : (exec E sch c m (t ++ anys (fn.ntmps - args.length)) (finishR w G R n)).wp P w G R) : Calls P f (List.toArray args) w R := by
 refine calls_of_wp hf hb ?_
 have hanys : ∀ (n : Nat) (l : List Value), l.length = n → Rels [] ρ (anys n) l := by
  intro n
  induction n with
  | zero => intro l hl; rw [List.eq_nil_of_length_eq_zero hl]; exact Rels.nil
  | succ n ih =>
   intro l hl
   cases l with
   | nil => simp at hl
   | cons y l => exact Rels.cons trivial (ih l (by simpa using hl))
 refine exec_sound (Q := R) (W := w) (G := G) hE sch c hs _ _ (finishR w G R n) _ [] ρ _ w ?_ hm ?_ rfl h
 ·intro e m' t' hh β ρ a w' hm hr hd
  have fin : (retR w G R n m' t').wp P w G R → ∃ v, (results fn a.tmps).run P w' = .ok v w' ∧ R (.returned v) w' := by
   intro hh
   have hx := hr.ev (.tmp n)
   have hx : Rel β ρ (get t' n) (a.tmps.getD n undef) := hx
   have hrun : (results fn a.tmps).run P w' = .ok (a.tmps.getD n undef) w' :=
    results_run (vs := [a.tmps.getD n undef]) (by rw [hres]; simp [List.mapM_cons, Sem.run_bind, resSem])
   refine ⟨_, hrun, ?_⟩
   unfold retR at hh
   cases e : get t' n with
   | r i => rw [e] at hh hx; exact hh _ _ _ _ hm hx
   | v u =>
    rw [e] at hh hx
    have hx : a.tmps.getD n undef = u := hx
    rw [hx]
    exact hh _ _ _ hm
   | _ => rw [e] at hh; exact hh.elim
  cases e with
  | normal => exact ⟨hd, fin hh⟩
  | ret => exact ⟨hd, fin hh⟩
  | _ => exact hh.elim
 ·have := ht.app (hanys (fn.ntmps - args.length) (List.replicate (fn.ntmps - args.length) undef) (by simp))
  simpa using this
theorem Mem.mine {W : World} {m : M} {β ρ} {w : World} (h : Mem W none m β ρ w) {i : Nat} {r : Row} {v : Value} (hi : m.rows[i]? = some (some r)) (hv : ρ[i]? = some v) : w.ownsRow W.heap.size r.e r.size v r.n r.xs := by
 obtain ⟨v', hv', ho⟩ := h.row i r hi
 rw [hv] at hv'
 cases hv'
 refine ⟨ho.1, ?_⟩
 rcases ho.2 with h0 | ⟨g, cap, cur, rfl, _, h1⟩
 ·exact .inl h0
 ·refine .inr ⟨g, cap, cur, rfl, ?_, h1⟩
  rcases (h.rb _ (List.mem_of_getElem? hv) g rfl).2.1 with hk | hk
  ·exact hk
  ·cases hk
end
end Go.Proofs.YtofpmnkkimgkfaaGreatDoor.Sx
