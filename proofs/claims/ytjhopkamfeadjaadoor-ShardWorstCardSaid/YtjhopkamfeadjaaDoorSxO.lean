/- Operations that are left open, met one by one; blocks that turn. -/
import Derived.Test.YtjhopkamfeadjaaDoorSxF
import Derived.Test.YtjhopkamfeadjaaDoorSxV
namespace Go.Proofs.YtjhopkamfeadjaaDoor.Sx
open Go.RowKit
set_option linter.unusedVariables false
set_option linter.unusedSimpArgs false
section
variable {P : Program} {W : World} {G : Option Nat} {Q : Ending → World → Prop} {ds : List Deferred}

theorem args_rel {β ρ} {t : List T} {a : Act} (hr : Rels β ρ t a.tmps.toList) (args : Array Operand) : Rels β ρ (args.toList.map (ev t)) (args.toList.map a.eval) := by
  refine ⟨by simp, fun i x hx => ?_⟩
  rw [List.getElem?_map] at hx ⊢
  cases hi : args.toList[i]? with
  | none => rw [hi] at hx; cases hx
  | some q => rw [hi] at hx; cases hx; exact ⟨_, rfl, hr.ev q⟩
/-- A call that is left open: all its arguments are values. -/
theorem op_call {o : Oper} {m : M} {t : List T} {k : M → List T → T → Tree} {g : FuncId} {args : Array Operand} {tys : Array TypeId} {l : List Value}
    (ho : o.op = .call ⟨.value (.func g), args, tys⟩) (hv : valsOf (args.toList.map (ev t)) = some l) (hc : callable P g = true)
    (hC : ∀ β ρ w, Mem W G m β ρ w → Calls P g (List.toArray l) w fun e w' => ∃ v m', e = .returned v ∧ Mem W G m' β ρ w' ∧ (k m' t (.v v)).wpD P W G Q ds) : (Tree.op none o m t k).wpD P W G Q ds := by
  intro β ρ a w hm hr K Q' hK
  obtain ⟨dst, op, ty', pos, after, guard⟩ := o
  simp only at ho
  subst ho
  have e1 := valsOf_spec _ _ _ hv (args_rel hr args)
  have hC := hC β ρ w hm
  unfold callable at hc
  cases hfn : P.funcs[g]? with
  | none => rw [hfn] at hc; cases hc
  | some fn =>
    rw [hfn] at hc
    simp only [Bool.and_eq_true, Bool.not_eq_true', Option.isSome_iff_ne_none] at hc
    unfold Oper.wp
    have : (execOp a.eval ⟨dst, .call ⟨.value (.func g), args, tys⟩, ty', pos, after, guard⟩).run P w = .ok (.enter g (List.toArray l)) w := by
      have hb : fn.body ≠ none := hc.2
      have hn : ¬ fn.name = "runtime.NumGoroutine" := by simpa using hc.1
      have e2 : args.map a.eval = List.toArray l := by rw [← e1]; cases args; simp
      simp [execOp, resolve, Deferred.ofValue, Act.eval, invoke, callFunc, hfn, hn, hb, e2]
    rw [this]
    refine hC.mono fun e w' hw' => ?_
    obtain ⟨v, m', rfl, hm', hk⟩ := hw'
    exact hK m' t (.v v) β ρ w' v hk hm' hr rfl (fun F h => by cases h)
/-- A method's call that is left open. -/
theorem op_invoke {o : Oper} {m : M} {t : List T} {k : M → List T → T → Tree} {r : Operand} {n : String} {ty : TypeId} {v : Value} {g : FuncId} {args : Array Operand} {tys : Array TypeId} {l : List Value}
    (ho : o.op = .call ⟨.invoke r n, args, tys⟩) (hr0 : ev t r = .v (.iface ty v)) (hmeth : ∀ w, (method (P.types.size + Made.depth) ty v n).run P w = .ok (g, v) w) (hv : valsOf (args.toList.map (ev t)) = some l) (hc : callable P g = true)
    (hC : ∀ β ρ w, Mem W G m β ρ w → Calls P g (List.toArray (v :: l)) w fun e w' => ∃ u m', e = .returned u ∧ Mem W G m' β ρ w' ∧ (k m' t (.v u)).wpD P W G Q ds) : (Tree.op none o m t k).wpD P W G Q ds := by
  intro β ρ a w hm hr K Q' hK
  obtain ⟨dst, op, ty', pos, after, guard⟩ := o
  simp only at ho
  subst ho
  have hx := hr.ev r
  rw [hr0] at hx
  have hx : a.eval r = .iface ty v := hx
  have e1 := valsOf_spec _ _ _ hv (args_rel hr args)
  have hC := hC β ρ w hm
  unfold callable at hc
  cases hfn : P.funcs[g]? with
  | none => rw [hfn] at hc; cases hc
  | some fn =>
    rw [hfn] at hc
    simp only [Bool.and_eq_true, Bool.not_eq_true', Option.isSome_iff_ne_none] at hc
    unfold Oper.wp
    have : (execOp a.eval ⟨dst, .call ⟨.invoke r n, args, tys⟩, ty', pos, after, guard⟩).run P w = .ok (.enter g (List.toArray (v :: l))) w := by
      have hb : fn.body ≠ none := hc.2
      have hn : ¬ fn.name = "runtime.NumGoroutine" := by simpa using hc.1
      have hx2 : (#[Value.iface ty v] ++ args.map a.eval).extract 1 (#[Value.iface ty v] ++ args.map a.eval).size = args.map a.eval := by rw [Array.extract_append]; simp
      have hx0 : (#[Value.iface ty v] ++ args.map a.eval)[0]? = some (.iface ty v) := by cases args; simp
      have e2 : args.map a.eval = List.toArray l := by rw [← e1]; cases args; simp
      simp only [execOp, resolve, hx, Sem.run_bind, Sem.run_pure, Result.andThen_ok, invoke, hx0, hx2, callMethod, run_program, hmeth w, callFunc, hfn]
      rw [if_neg (by simpa using hn), if_neg (by simpa using hb), e2]
      simp
    rw [this]
    refine hC.mono fun e w' hw' => ?_
    obtain ⟨u, m', rfl, hm', hk⟩ := hw'
    exact hK m' t (.v u) β ρ w' u hk hm' hr rfl (fun F h => by cases h)
/-- A store into a block that is known to hold just these cells. -/
theorem op_store {o : Oper} {m : M} {t : List T} {k : M → List T → T → Tree} {ty : TypeId} {x y : Operand} {ad : Addr} {u : Value} {g off : Nat}
    (ho : o.op = .store ty x y) (hx : ev t x = .v (.pointer (some ad))) (had : ad = ⟨g, off, none⟩) (hy : ev t y = .v u) (hsz : (P.info? ty).map (·.size) = some u.cells.size) (h1 : ∀ z ∈ u.cells.toList, z.oneCell' = true)
    (hB : ∀ β ρ w, Mem W G m β ρ w → ∃ cur e, w.heap[g]? = some (.cells cur e (0, 0)) ∧ off + u.cells.size ≤ cur.size ∧ ∀ w', w.grownBy w' (some g) → w'.heap[g]? = some (.cells (spl cur.toList off u.cells.toList).toArray e (0, 0)) → ∃ m', Mem W G m' β ρ w' ∧ (k m' t (.v undef)).wpD P W G Q ds) : (Tree.op none o m t k).wpD P W G Q ds := by
  intro β ρ a w hm hr K Q' hK
  obtain ⟨dst, op, ty', pos, after, guard⟩ := o
  simp only at ho
  subst ho had
  have h2 := hr.ev x
  rw [hx] at h2
  have hp : a.eval x = .pointer (some ⟨g, off, none⟩) := h2
  have h3 := hr.ev y
  rw [hy] at h3
  have hu : a.eval y = u := h3
  obtain ⟨cur, e, hw, hl, H⟩ := hB β ρ w hm
  have hst := run_storeCells_at P g off e u.cells.toList 0 cur w hw (by simp; omega) h1
  simp only [Nat.add_zero] at hst
  obtain ⟨inf, hi, his⟩ : ∃ i, P.info? ty = some i ∧ i.size = u.cells.size := by
    cases hi : P.info? ty with
    | none => rw [hi] at hsz; cases hsz
    | some i => rw [hi] at hsz; exact ⟨i, rfl, Option.some.inj hsz⟩
  obtain ⟨w', hst, hgr, hb⟩ : ∃ w', (storeCells ⟨g, off, none⟩ u.cells.toList).run P w = .ok () w' ∧ w.grownBy w' (some g) ∧ w'.heap[g]? = some (.cells (spl cur.toList off u.cells.toList).toArray e (0, 0)) :=
    ⟨_, hst, ⟨rfl, rfl, rfl, by simp [World.setRow], fun k _ hk => setRow_other w g k _ (fun e => hk (by simp [e]))⟩, setRow_heap w g cur _ e _ hw⟩
  unfold Oper.wp
  have hrun : (execOp a.eval ⟨dst, .store ty x y, ty', pos, after, guard⟩).run P w = .ok .skip w' := by
    simp only [execOp, Instr.storeAt, hp, Instr.sureAddr, Sem.run_bind, Sem.run_pure, Result.andThen_ok, storeVar, sizeOf, typeInfo]
    simp [hi, his, hu, hst]
  obtain ⟨m', hm', hk⟩ := H w' hgr hb
  rw [hrun]
  exact hK m' t (.v undef) β ρ w' undef hk hm' hr rfl (fun F h => by cases h)
/-- A block that is known has turned: what is known of it now; what else stays. -/
theorem Mem.turn {m : M} {β ρ} {w w' : World} (h : Mem W G m β ρ w) {φ : Fact} {g : Nat} (hφ : φ ∈ m.facts) (hg : φ.g = some g) (hW : W.heap.size ≤ g ∨ some g = G) (k : w.grownBy w' (some g)) {fs : List Fact}
    (hfs : ∀ ψ ∈ fs, (ψ ∈ m.facts ∧ ψ.g ≠ some g) ∨ (ψ.g = some g ∧ ∃ o, w'.heap[g]? = some o ∧ ψ.holds o)) : Mem W G { m with facts := fs } β ρ w' := by
  obtain ⟨⟨hA, hB⟩, _⟩ := h.fact φ hφ g hg
  constructor
  · exact grown_then h.grown k hW
  · exact h.nd
  · exact h.bl
  · exact fun x hx => ⟨(h.lo x hx).1, Nat.lt_of_lt_of_le (h.lo x hx).2 k.size⟩
  · intro b cs ty hb
    obtain ⟨g2, l, hg2, hw, hr, h1⟩ := h.own b cs ty hb
    refine ⟨g2, l, hg2, (k.block g2 (h.lo g2 (List.mem_of_getElem? hg2)).2 (fun e => ?_)).trans hw, hr, h1⟩
    cases e
    have := hA b hg2
    rw [show m.own[b]? = some (some (cs, ty)) from hb] at this
    cases this
  · exact h.rl
  · intro i r hi
    obtain ⟨v, hv, ho⟩ := h.row i r hi
    refine ⟨v, hv, ho.kept k ?_⟩
    cases hob : v.ownBlock with
    | none => exact .inl rfl
    | some g2 =>
      refine .inr (fun e => ?_)
      cases e
      have := hB i v hv hob
      rw [show m.rows[i]? = some (some r) from hi] at this
      cases this
  · exact fun v hv g2 hg2 => ⟨(h.rb v hv g2 hg2).1, (h.rb v hv g2 hg2).2.1, Nat.lt_of_lt_of_le (h.rb v hv g2 hg2).2.2 k.size⟩
  · exact h.rows
  · intro ψ hψ g2 hg2
    rcases hfs ψ hψ with ⟨h1, h2⟩ | ⟨h1, o, ho, hp⟩
    · obtain ⟨h3, o, ho, hp⟩ := h.fact ψ h1 g2 hg2
      refine ⟨h3, o, (k.block g2 (Array.getElem?_eq_some_iff.1 ho).1 (fun e => ?_)).trans ho, hp⟩
      rw [hg2] at h2
      exact h2 e
    · rw [h1] at hg2
      cases hg2
      exact ⟨⟨hA, hB⟩, o, ho, hp⟩
/-- A call that turns a block of which something is known. -/
theorem op_turn {q : Option (List Fact)} {o : Oper} {m : M} {t : List T} {k : M → List T → T → Tree} {f : FuncId} {args : Array Operand} {tys : Array TypeId} {l : List Value} {φ : Fact} {g : Nat}
    (ho : o.op = .call ⟨.value (.func f), args, tys⟩) (hv : valsOf (args.toList.map (ev t)) = some l) (hc : callable P f = true) (hφ : φ ∈ m.facts) (hg : φ.g = some g) (hW : W.heap.size ≤ g ∨ some g = G) (hq : ∀ F, q = some F → ∃ ψ ∈ F, ψ.g = some g)
    (hC : ∀ β ρ w, Mem W G m β ρ w → Calls P f (List.toArray l) w fun e w' => ∃ v fs, e = .returned v ∧ w.grownBy w' (some g) ∧ (∀ ψ ∈ fs, (ψ ∈ m.facts ∧ ψ.g ≠ some g) ∨ (ψ.g = some g ∧ ∃ o, w'.heap[g]? = some o ∧ ψ.holds o)) ∧ (k { m with facts := fs } t (.v v)).wpD P W G Q ds) : (Tree.op q o m t k).wpD P W G Q ds := by
  intro β ρ a w hm hr K Q' hK
  obtain ⟨dst, op, ty', pos, after, guard⟩ := o
  simp only at ho
  subst ho
  have e1 := valsOf_spec _ _ _ hv (args_rel hr args)
  have hC := hC β ρ w hm
  unfold callable at hc
  cases hfn : P.funcs[f]? with
  | none => rw [hfn] at hc; cases hc
  | some fn =>
    rw [hfn] at hc
    simp only [Bool.and_eq_true, Bool.not_eq_true', Option.isSome_iff_ne_none] at hc
    unfold Oper.wp
    have : (execOp a.eval ⟨dst, .call ⟨.value (.func f), args, tys⟩, ty', pos, after, guard⟩).run P w = .ok (.enter f (List.toArray l)) w := by
      have hb : fn.body ≠ none := hc.2
      have hn : ¬ fn.name = "runtime.NumGoroutine" := by simpa using hc.1
      have e2 : args.map a.eval = List.toArray l := by rw [← e1]; cases args; simp
      simp [execOp, resolve, Deferred.ofValue, Act.eval, invoke, callFunc, hfn, hn, hb, e2]
    rw [this]
    refine hC.mono fun e w' hw' => ?_
    obtain ⟨v, fs, rfl, hgr, hfs, hk⟩ := hw'
    refine hK _ t (.v v) β ρ w' v hk (hm.turn hφ hg hW hgr hfs) hr rfl (fun F h => ⟨rfl, rfl, ?_⟩)
    obtain ⟨ψ, hψ, hψg⟩ := hq F h
    exact .inr ⟨ψ, hψ, g, hψg, hW, hgr⟩
/-- A call that answers with a row of its own making, of which all is known. -/
theorem op_fresh {o : Oper} {m : M} {t : List T} {k : M → List T → T → Tree} {f : FuncId} {args : Array Operand} {tys : Array TypeId} {l : List Value} {e : TypeId} {size n : Nat} {xs : List Value}
    (ho : o.op = .call ⟨.value (.func f), args, tys⟩) (hv : valsOf (args.toList.map (ev t)) = some l) (hc : callable P f = true)
    (hC : ∀ β ρ w, Mem W G m β ρ w → Calls P f (List.toArray l) w fun e' w' => ∃ v, e' = .returned v ∧ Below w.heap.size w w' ∧ w'.ownsRow w.heap.size e size v n xs)
    (h0 : n = 0 → (k m t (.v (.slice none 0 0))).wpD P W G Q ds)
    (h : ∀ g c rest, W.heap.size ≤ g → n ≤ c → c ≤ maxLen → xs.length + rest.length = c * size → (k { m with facts := ⟨some g, fun o => o = .cells (List.toArray (xs ++ rest)) e (0, 0)⟩ :: m.facts } t (.v (.slice (some ⟨g, 0, none⟩) n c))).wpD P W G Q ds) : (Tree.op none o m t k).wpD P W G Q ds := by
  refine op_call ho hv hc fun β ρ w hm => (hC β ρ w hm).mono fun e' w' hw' => ?_
  obtain ⟨v, rfl, hb, hl, hrow⟩ := hw'
  rcases hrow with ⟨rfl, hn⟩ | ⟨g, c, cur, rfl, hg, hw, hnc, hcm, hcs, ht⟩
  · exact ⟨_, m, rfl, hm.grow hb, h0 hn⟩
  · have hcur : cur = List.toArray (xs ++ cur.toList.drop (n * size)) := by
      rw [← ht, List.take_append_drop]
    refine ⟨_, _, rfl, (hm.grow hb).learn [⟨some g, fun o => o = .cells (List.toArray (xs ++ cur.toList.drop (n * size))) e (0, 0)⟩] ?_, h g c (cur.toList.drop (n * size)) (Nat.le_trans hm.grown.size hg) hnc hcm ?_⟩
    · intro φ hφ g' hg'
      simp only [List.mem_singleton] at hφ
      subst hφ
      cases hg'
      exact ⟨hm.apart (.inr (.inl hg)), _, hw, by rw [← hcur]⟩
    · have : cur.toList.length = c * size := by rw [Array.length_toList]; exact hcs
      rw [hl, List.length_drop, this]
      have := Nat.mul_le_mul_right size hnc
      omega
theorem mem_plainG {w : World} {G : Option Nat} (facts : List Fact) (hfacts : ∀ φ ∈ facts, ∀ g, φ.g = some g → ∃ o, w.heap[g]? = some o ∧ φ.holds o) : Mem w G ⟨[], [], facts⟩ [] [] w := by
  constructor
  · exact ⟨rfl, rfl, rfl, Nat.le_refl _, fun _ _ _ => rfl⟩
  · exact List.nodup_nil
  · rfl
  · intro g hg; cases hg
  · intro b cs ty hb; simp at hb
  · rfl
  · intro i r hi; simp at hi
  · intro v hv; cases hv
  · intro i j v u g _ hv; simp at hv
  · intro φ hφ g hg
    exact ⟨⟨fun b hb => by simp at hb, fun i v hv => by simp at hv⟩, hfacts φ hφ g hg⟩
/-- A function that may turn the block G. -/
theorem calls_of_turn {E : Env} (hE : E.Ok P) {f : FuncId} {fn : Func} {c : Code} (hf : P.funcs[f]? = some fn) (hb : fn.body = some c) (sch : List (Nat × (Ord × List Nat))) (hs : schedOk sch c = true) {args : List Value} {w : World} {R : Ending → World → Prop}
    (G : Option Nat) (facts : List Fact) (hfacts : ∀ φ ∈ facts, ∀ g, φ.g = some g → ∃ o, w.heap[g]? = some o ∧ φ.holds o)
    (h : (exec E sch c ⟨[], [], facts⟩ (args.map T.v ++ anys (fn.ntmps - args.length)) (finish E fn.results.toList)).wp P w G R) : Calls P f (List.toArray args) w R :=
  calls_of_run (G := G) hE hf hb sch hs (args.map T.v) _ [] (mem_plainG facts hfacts) (Rels.vals _) h
theorem Env.Ok.soon_ {E : Env} (hE : E.Ok P) : ({ E with soon := true } : Env).Ok P := ⟨hE.zero, hE.agg1, hE.aggN, hE.off, hE.row, hE.str, hE.strs, hE.ints, hE.size, hE.mixed, hE.row1, hE.meth, hE.arr⟩
theorem Env.Ok.lead_ {E : Env} (hE : E.Ok P) (n : Nat) : ({ E with lead := n } : Env).Ok P := ⟨hE.zero, hE.agg1, hE.aggN, hE.off, hE.row, hE.str, hE.strs, hE.ints, hE.size, hE.mixed, hE.row1, hE.meth, hE.arr⟩
/-- The same tables, where other functions' calls are left open. -/
theorem Env.Ok.open_ {E : Env} (hE : E.Ok P) (l : List FuncId) (b : Bool) : ({ E with opens := l, bare := b } : Env).Ok P := ⟨hE.zero, hE.agg1, hE.aggN, hE.off, hE.row, hE.str, hE.strs, hE.ints, hE.size, hE.mixed, hE.row1, hE.meth, hE.arr⟩
end
end Go.Proofs.YtjhopkamfeadjaaDoor.Sx
