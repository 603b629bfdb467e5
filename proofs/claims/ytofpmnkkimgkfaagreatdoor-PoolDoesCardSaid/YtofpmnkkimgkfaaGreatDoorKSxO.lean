/- Operations that are left open, met one by one; blocks that turn. -/
import Derived.Test.YtofpmnkkimgkfaaGreatDoorKSxF
import Derived.Test.YtofpmnkkimgkfaaGreatDoorKSxV
set_option linter.all false
set_option maxHeartbeats 4000000
set_option maxRecDepth 100000
namespace Go.Proofs.YtofpmnkkimgkfaaGreatDoor.Sx
open Go.RowKit
section
variable {P : Program} {W : World} {G : Option Nat} {Q : Ending → World → Prop} {ds : List Deferred}
theorem args_rel {β ρ} {t : List T} {a : Act} (hr : Rels β ρ t a.tmps.toList) (args : Array Operand) : Rels β ρ (args.toList.map (ev t)) (args.toList.map a.eval) := by
 refine ⟨by simp, fun i x hx => ?_⟩
 rw [List.getElem?_map] at hx ⊢
 cases hi : args.toList[i]? with
 | none => rw [hi] at hx; cases hx
 | some q => rw [hi] at hx; cases hx; exact ⟨_, rfl, hr.ev q⟩
theorem op_callB {o : Oper} {m : M} {t : List T} {k : M → List T → T → Tree} {f : Operand} {g : FuncId} {first : Array Value} {args : Array Operand} {tys : Array TypeId} {l : List Value}
  (ho : o.op = .call ⟨.value f, args, tys⟩) (hf : ev t f = .v (.func (.func g) first #[])) (hv : valsOf (args.toList.map (ev t)) = some l) (hc : callable P g = true)
  (hC : ∀ β ρ w, Mem W G m β ρ w → Calls P g (first ++ List.toArray l) w fun e w' => ∃ v m', e = .returned v ∧ Mem W G m' β ρ w' ∧ (k m' t (.v v)).wpD P W G Q ds) : (Tree.op none o m t k).wpD P W G Q ds := by
 intro β ρ a w hm hr K Q' hK
 obtain ⟨dst, op, ty', pos, after, guard⟩ := o
 simp only at ho
 subst ho
 have hx := hr.ev f
 rw [hf] at hx
 have hx : a.eval f = .func (.func g) first #[] := hx
 have e1 := valsOf_spec _ _ _ hv (args_rel hr args)
 have hC := hC β ρ w hm
 unfold callable at hc
 cases hfn : P.funcs[g]? with
 | none => rw [hfn] at hc; cases hc
 | some fn =>
  rw [hfn] at hc
  simp only [Bool.and_eq_true, Bool.not_eq_true', Option.isSome_iff_ne_none] at hc
  unfold Oper.wp
  have : (execOp a.eval ⟨dst, .call ⟨.value f, args, tys⟩, ty', pos, after, guard⟩).run P w = .ok (.enter g (first ++ List.toArray l)) w := by
   have hb : fn.body ≠ none := hc.2
   have hn : ¬ fn.name = "runtime.NumGoroutine" := by simpa using hc.1
   have e2 : args.map a.eval = List.toArray l := by rw [← e1]; cases args; simp
   simp [execOp, resolve, Deferred.ofValue, hx, invoke, callFunc, hfn, hn, hb, e2]
  rw [this]
  refine hC.mono fun e w' hw' => ?_
  obtain ⟨v, m', rfl, hm', hk⟩ := hw'
  exact hK m' t (.v v) β ρ w' v hk hm' hr rfl (fun F h => by cases h)
theorem Mem.turn {m : M} {β ρ} {w w' : World} (h : Mem W G m β ρ w) {φ : Fact} {g : Nat} (hφ : φ ∈ m.facts) (hg : φ.g = some g) (hW : W.heap.size ≤ g ∨ some g = G) (k : w.grownBy w' (some g)) {fs : List Fact}
  (hfs : ∀ ψ ∈ fs, (ψ ∈ m.facts ∧ ψ.g ≠ some g) ∨ (ψ.g = some g ∧ ∃ o, w'.heap[g]? = some o ∧ ψ.holds o)) : Mem W G { m with facts := fs } β ρ w' := by
 obtain ⟨⟨hA, hB⟩, _⟩ := h.fact φ hφ g hg
 constructor
 ·exact grown_then h.grown k hW
 ·exact h.nd
 ·exact h.bl
 ·exact fun x hx => ⟨(h.lo x hx).1, Nat.lt_of_lt_of_le (h.lo x hx).2 k.size⟩
 ·intro b cs ty hb
  obtain ⟨g2, l, hg2, hw, hr, h1⟩ := h.own b cs ty hb
  refine ⟨g2, l, hg2, (k.block g2 (h.lo g2 (List.mem_of_getElem? hg2)).2 (fun e => ?_)).trans hw, hr, h1⟩
  cases e
  have := hA b hg2
  rw [show m.own[b]? = some (some (cs, ty)) from hb] at this
  cases this
 ·exact h.rl
 ·intro i r hi
  obtain ⟨v, hv, ho⟩ := h.row i r hi
  refine ⟨v, hv, ho.kept k ?_⟩
  cases hob : v.ownBlock with
  | none => exact .inl rfl
  | some g2 =>
   refine .inr (fun e => ?_)
   cases e
   have := hB i v hv hob
   rw [show m.rows[i]? = some (some r) from hi] at this
   cases this
 ·exact fun v hv g2 hg2 => ⟨(h.rb v hv g2 hg2).1, (h.rb v hv g2 hg2).2.1, Nat.lt_of_lt_of_le (h.rb v hv g2 hg2).2.2 k.size⟩
 ·exact h.rows
 ·intro ψ hψ g2 hg2
  rcases hfs ψ hψ with ⟨h1, h2⟩ | ⟨h1, o, ho, hp⟩
  ·obtain ⟨h3, o, ho, hp⟩ := h.fact ψ h1 g2 hg2
   refine ⟨h3, o, (k.block g2 (Array.getElem?_eq_some_iff.1 ho).1 (fun e => ?_)).trans ho, hp⟩
   rw [hg2] at h2
   exact h2 e
  ·rw [h1] at hg2
   cases hg2
   exact ⟨⟨hA, hB⟩, o, ho, hp⟩
theorem op_turn {q : Option (List Fact)} {o : Oper} {m : M} {t : List T} {k : M → List T → T → Tree} {f : FuncId} {args : Array Operand} {tys : Array TypeId} {l : List Value} {φ : Fact} {g : Nat}
  (ho : o.op = .call ⟨.value (.func f), args, tys⟩) (hv : valsOf (args.toList.map (ev t)) = some l) (hc : callable P f = true) (hφ : φ ∈ m.facts) (hg : φ.g = some g) (hW : W.heap.size ≤ g ∨ some g = G) (hq : ∀ F, q = some F → ∃ ψ ∈ F, ψ.g = some g)
  (hC : ∀ β ρ w, Mem W G m β ρ w → Calls P f (List.toArray l) w fun e w' => ∃ v fs, e = .returned v ∧ w.grownBy w' (some g) ∧ (∀ ψ ∈ fs, (ψ ∈ m.facts ∧ ψ.g ≠ some g) ∨ (ψ.g = some g ∧ ∃ o, w'.heap[g]? = some o ∧ ψ.holds o)) ∧ (k { m with facts := fs } t (.v v)).wpD P W G Q ds) : (Tree.op q o m t k).wpD P W G Q ds := by
 intro β ρ a w hm hr K Q' hK
 obtain ⟨dst, op, ty', pos, after, guard⟩ := o
 simp only at ho
 subst ho
 have e1 := valsOf_spec _ _ _ hv (args_rel hr args)
 have hC := hC β ρ w hm
 unfold callable at hc
 cases hfn : P.funcs[f]? with
 | none => rw [hfn] at hc; cases hc
 | some fn =>
  rw [hfn] at hc
  simp only [Bool.and_eq_true, Bool.not_eq_true', Option.isSome_iff_ne_none] at hc
  unfold Oper.wp
  have : (execOp a.eval ⟨dst, .call ⟨.value (.func f), args, tys⟩, ty', pos, after, guard⟩).run P w = .ok (.enter f (List.toArray l)) w := by
   have hb : fn.body ≠ none := hc.2
   have hn : ¬ fn.name = "runtime.NumGoroutine" := by simpa using hc.1
   have e2 : args.map a.eval = List.toArray l := by rw [← e1]; cases args; simp
   simp [execOp, resolve, Deferred.ofValue, Act.eval, invoke, callFunc, hfn, hn, hb, e2]
  rw [this]
  refine hC.mono fun e w' hw' => ?_
  obtain ⟨v, fs, rfl, hgr, hfs, hk⟩ := hw'
  refine hK _ t (.v v) β ρ w' v hk (hm.turn hφ hg hW hgr hfs) hr rfl (fun F h => ⟨rfl, rfl, ?_⟩)
  obtain ⟨ψ, hψ, hψg⟩ := hq F h
  exact .inr ⟨ψ, hψ, g, hψg, hW, hgr⟩
theorem mem_plainG {w : World} {G : Option Nat} (facts : List Fact) (hfacts : ∀ φ ∈ facts, ∀ g, φ.g = some g → ∃ o, w.heap[g]? = some o ∧ φ.holds o) : Mem w G ⟨[], [], facts⟩ [] [] w := by
 constructor
 ·exact ⟨rfl, rfl, rfl, Nat.le_refl _, fun _ _ _ => rfl⟩
 ·exact List.nodup_nil
 ·rfl
 ·intro g hg; cases hg
 ·intro b cs ty hb; simp at hb
 ·rfl
 ·intro i r hi; simp at hi
 ·intro v hv; cases hv
 ·intro i j v u g _ hv; simp at hv
 ·intro φ hφ g hg
  exact ⟨⟨fun b hb => by simp at hb, fun i v hv => by simp at hv⟩, hfacts φ hφ g hg⟩
theorem calls_of_turn {E : Env} (hE : E.Ok P) {f : FuncId} {fn : Func} {c : Code} (hf : P.funcs[f]? = some fn) (hb : fn.body = some c) (sch : List (Nat × (Ord × List Nat))) (hs : schedOk sch c = true) {args : List Value} {w : World} {R : Ending → World → Prop}
  (G : Option Nat) (facts : List Fact) (hfacts : ∀ φ ∈ facts, ∀ g, φ.g = some g → ∃ o, w.heap[g]? = some o ∧ φ.holds o)
  (h : (exec E sch c ⟨[], [], facts⟩ (args.map T.v ++ anys (fn.ntmps - args.length)) (finish E fn.results.toList)).wp P w G R) : Calls P f (List.toArray args) w R :=
 calls_of_run (G := G) hE hf hb sch hs (args.map T.v) _ [] (mem_plainG facts hfacts) (Rels.vals _) h
theorem Env.Ok.soon_ {E : Env} (hE : E.Ok P) : ({ E with soon := true } : Env).Ok P := ⟨hE.zero, hE.agg1, hE.aggN, hE.off, hE.row, hE.str, hE.strs, hE.ints, hE.size, hE.mixed, hE.row1, hE.meth, hE.arr⟩
theorem Env.Ok.lead_ {E : Env} (hE : E.Ok P) (n : Nat) : ({ E with lead := n } : Env).Ok P := ⟨hE.zero, hE.agg1, hE.aggN, hE.off, hE.row, hE.str, hE.strs, hE.ints, hE.size, hE.mixed, hE.row1, hE.meth, hE.arr⟩
theorem Env.Ok.open_ {E : Env} (hE : E.Ok P) (l : List FuncId) (b : Bool) : ({ E with opens := l, bare := b } : Env).Ok P := ⟨hE.zero, hE.agg1, hE.aggN, hE.off, hE.row, hE.str, hE.strs, hE.ints, hE.size, hE.mixed, hE.row1, hE.meth, hE.arr⟩
end
end Go.Proofs.YtofpmnkkimgkfaaGreatDoor.Sx
