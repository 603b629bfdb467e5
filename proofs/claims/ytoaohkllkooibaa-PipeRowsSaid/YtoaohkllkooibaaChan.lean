/- Channels in one goroutine, nothing waits: walks of codes in which a channel is sent to, or received from; what is known of a channel. -/
import Derived.Test.YtoaohkllkooibaaSxA
import Derived.Conc.LoneSelect
namespace Go.Proofs.Ytoaohkllkooibaa.Sx
open Go.RowKit
set_option linter.unusedVariables false
set_option linter.unusedSimpArgs false
section
variable {P : Program} {Q : Exit → Act → World → Prop} {a : Act} {w : World}
/-- A walk of code in a goroutine that is under way. -/
def WN (P : Program) (c : Code) (Q : Exit → Act → World → Prop) (a : Act) (w : World) : Prop :=
  ∀ (b : Frame) (k : List Item) (cs : List Frame), b.kind ≠ .early → ∃ e a' w', Q e a' w' ∧ Arrives P (lone (b.at a (.code c :: k)) cs w) b k cs e a' w'
/-- The same, within a region. -/
def IN (P : Program) (ops : Array Oper) (l : List Nat) (Q : Exit → Act → World → Prop) (a : Act) (w : World) : Prop :=
  ∀ (b : Frame) (k : List Item) (cs : List Frame), b.kind ≠ .early → ∃ e a' w', Q e a' w' ∧ Arrives P (lone (b.at a (.inRegion ops l :: k)) cs w) b k cs e a' w'
theorem wn_of_wp {c : Code} (h : c.wp P Q a w) : WN P c Q a w := fun b k cs _ => h b k cs
theorem wn_seq {x y : Code} (h : WN P x (Exit.then (WN P y Q) Q) a w) : WN P (.seq x y) Q a w := by
  intro b k cs hb
  obtain ⟨e, a1, w1, hq, har⟩ := h b (.code y :: k) cs hb
  by_cases he : e = .normal
  · subst he
    obtain ⟨e2, a2, w2, hq2, har2⟩ := hq b k cs hb
    exact ⟨e2, a2, w2, hq2, .of_steps (.head step_seq har) har2⟩
  · have hq' : Q e a1 w1 := by cases e <;> first | exact hq | exact absurd rfl he
    refine ⟨e, a1, w1, hq', .of_steps (.one step_seq) ?_⟩
    cases e with
    | normal => exact absurd rfl he
    | _ => exact .pass (x := .code y) rfl (fun _ _ => .inl (by simp)) har
theorem wn_block {id : Nat} {c : Code} (h : WN P c (Exit.inBlock id Q) a w) : WN P (.block id c) Q a w := by
  intro b k cs hb
  obtain ⟨e, a1, w1, hq, har⟩ := h b (.inBlock id :: k) cs hb
  cases e with
  | normal => exact ⟨.normal, a1, w1, hq, .head step_block (Steps.trans har (.one step_inBlock))⟩
  | exit i =>
    by_cases hi : i = id
    · simp only [Exit.inBlock, hi, if_true] at hq
      exact ⟨.normal, a1, w1, hq, .head step_block (har k (by simp [exitTo, hi]))⟩
    · simp only [Exit.inBlock, hi, if_false] at hq
      refine ⟨.exit i, a1, w1, hq, fun k' hk => .head step_block (har k' ?_)⟩
      have : (id == i) = false := by simp; exact fun h => hi h.symm
      simp [exitTo, this, hk]
  | goto l => exact ⟨_, a1, w1, hq, fun k' hk => .head step_block (har k' (by simp [gotoIn, hk]))⟩
  | ret => exact ⟨_, a1, w1, hq, .of_steps (.one step_block) har⟩
  | panic ch => exact ⟨_, a1, w1, hq, .of_steps (.one step_block) har⟩
  | outgrown => exact ⟨_, a1, w1, hq, .of_steps (b := b) (k := k) (cs := cs) (e := .outgrown) (.one step_block) har⟩
theorem wn_loop {c : Code} {ι : Type} (I : ι → Act → World → Prop) (μ : ι → Nat) (i0 : ι) (h0 : I i0 a w)
    (round : ∀ i a w, I i a w → WN P c (Exit.then (fun a' w' => ∃ j, I j a' w' ∧ μ j < μ i) Q) a w) : WN P (.loop c) Q a w := by
  intro b k cs hb
  have key : ∀ n i a w, μ i = n → I i a w → ∃ e a' w', Q e a' w' ∧ Arrives P (lone (b.at a (.code c :: .inLoop c :: k)) cs w) b k cs e a' w' := by
    intro n
    induction n using Nat.strongRecOn with
    | _ n ih =>
      intro i a w hn hI
      obtain ⟨e, a1, w1, hq, har⟩ := round i a w hI b (.inLoop c :: k) cs hb
      by_cases he : e = .normal
      · subst he
        obtain ⟨j, hj, hlt⟩ := hq
        obtain ⟨e2, a2, w2, hq2, har2⟩ := ih (μ j) (hn ▸ hlt) j a1 w1 rfl hj
        exact ⟨e2, a2, w2, hq2, .of_steps (Steps.trans har (.one step_inLoop)) har2⟩
      · have hq' : Q e a1 w1 := by cases e <;> first | exact hq | exact absurd rfl he
        refine ⟨e, a1, w1, hq', ?_⟩
        cases e with
        | normal => exact absurd rfl he
        | _ => exact .pass (x := .inLoop c) rfl (fun _ _ => .inl (by simp)) har
  obtain ⟨e, a', w', hq, har⟩ := key _ i0 a w rfl h0
  exact ⟨e, a', w', hq, .of_steps (.one step_loop) har⟩
theorem wn_region {id : Nat} {ops : Array Oper} (h : IN P ops (List.range ops.size) Q a w) : WN P (.region id ops false) Q a w := fun b k cs hb =>
  let ⟨e, a', w', q, r⟩ := h b k cs hb; ⟨e, a', w', q, .of_steps (.one step_region) r⟩
theorem in_ops {ops : Array Oper} {l : List Nat} (h : wpOps P ops Q l a w) : IN P ops l Q a w := fun b k cs _ => wp_ops l a w h b k cs
theorem in_value {ops : Array Oper} {i : Nat} {l : List Nat} {o : Oper} {v : Value} {w' : World} (ho : ops[i]? = some o) (hw : Region.wanted o (yielded ops a.tmps) = true)
    (hr : (execOp a.eval o).run P w = .ok (.value v) w') (h : IN P ops l Q (a.put o.dst v) w') : IN P ops (i :: l) Q a w := fun b k cs hb => by
  obtain ⟨e, a', w2, hq, har⟩ := h b k cs hb
  refine ⟨e, a', w2, hq, .of_steps (.one (step_lone_go ?_)) har⟩
  have hfin : (b.at a (.inRegion ops (i :: l) :: k)).finish v = b.at (a.put o.dst v) (.inRegion ops l :: k) := by rw [Frame.finish_at, ho]; rfl
  rw [stepG_op ho hw, ← hfin]
  simp [stepG.apply, hr]
theorem in_comm {ops : Array Oper} {i : Nat} {l : List Nat} {o : Oper} {v : Value} {cases : Array CommCase} {blocking : Bool} {shape : CommShape} {w1 w' : World} (ho : ops[i]? = some o) (hw : Region.wanted o (yielded ops a.tmps) = true)
    (hr : (execOp a.eval o).run P w = .ok (.comm cases blocking shape) w1)
    (hs : ∀ (fr : Frame) (cs : List Frame) (es : Array Event), stepG P true (Go.Conc.G fr cs) w = .comm (Go.Conc.G fr cs) cases blocking shape w1 es → Go.step P (Go.Conc.solo (Go.Conc.G fr cs) w) = .next (Go.Conc.solo (Go.Conc.G (fr.finish v) cs) w'))
    (h : IN P ops l Q (a.put o.dst v) w') : IN P ops (i :: l) Q a w := fun b k cs hb => by
  obtain ⟨e, a', w2, hq, har⟩ := h b k cs hb
  have hfin : (b.at a (.inRegion ops (i :: l) :: k)).finish v = b.at (a.put o.dst v) (.inRegion ops l :: k) := by rw [Frame.finish_at, ho]; rfl
  have h1 := hs _ _ _ (Go.Conc.stepG_comm (main := true) (k := k) (cs := cs) (rest := l) ho hw hb hr)
  rw [hfin] at h1
  exact ⟨e, a', w2, hq, .of_steps (.one h1) har⟩
end
section
variable {P : Program} {W : World} {G : Option Nat} {R : Ending → World → Prop} {E : Env}
/-- Where a walk stands: memory and slots are told. -/
def StAt (W : World) (G : Option Nat) (m : M) (t : List T) (a : Act) (w : World) : Prop := ∃ β ρ, Mem W G m β ρ w ∧ Rels β ρ t a.tmps.toList ∧ a.defers = []
/-- A piece of code that comes to a known end. -/
theorem wn_exec (hE : E.Ok P) (sch : List (Nat × (Ord × List Nat))) {c : Code} (hs : schedOk sch c = true) {m m1 : M} {t t1 : List T} {a : Act} {w : World} {Q : Exit → Act → World → Prop} (e0 : Exit) (hst : StAt W G m t a w)
    (h : (exec E sch c m t (fun e m' t' => .done (e = e0 ∧ Le m' t' m1 t1))).wpD P W G R []) (hn : ∀ a w, StAt W G m1 t1 a w → Q e0 a w) : WN P c Q a w := by
  obtain ⟨β, ρ, hm, hr, hd⟩ := hst
  refine wn_of_wp (exec_sound hE sch c hs m t _ Q β ρ a w (fun e m' t' hh β ρ a w hm hr hd => ?_) hm hr hd h)
  obtain ⟨rfl, hle⟩ := hh
  exact hn a w ⟨_, _, (hle.use hm hr).1, (hle.use hm hr).2, hd⟩
/-- The last piece of a function. -/
theorem wn_last (hE : E.Ok P) {fn : Func} (sch : List (Nat × (Ord × List Nat))) {c : Code} (hs : schedOk sch c = true) {m : M} {t : List T} {a : Act} {w : World} (hst : StAt W G m t a w)
    (h : (exec E sch c m t (finish E fn.results.toList)).wpD P W G R []) : WN P c (bodyPost P fn R) a w := by
  obtain ⟨β, ρ, hm, hr, hd⟩ := hst
  refine wn_of_wp (exec_sound (Q := R) hE sch c hs m t (finish E fn.results.toList) _ β ρ a w ?_ hm hr hd h)
  intro e m' t' hh β ρ a w' hm hr hd
  have fin : (resAll E fn.results.toList m' t' (fun vs m => .ret (tup vs) m)).wp P W G R → ∃ v, (results fn a.tmps).run P w' = .ok v w' ∧ R (.returned v) w' := by
    intro hh
    obtain ⟨vs, m2, h2, hm2, hrun⟩ := res_sound hE _ _ _ _ hm hr hh
    exact ⟨_, results_run hrun, h2 _ _ _ hm2⟩
  cases e with
  | normal => exact ⟨hd, fin hh⟩
  | ret => exact ⟨hd, fin hh⟩
  | _ => exact hh.elim
theorem calls_of_wn {f : FuncId} {fn : Func} {c : Code} (hf : P.funcs[f]? = some fn) (hb : fn.body = some c) {args : List Value} {w : World} (G : Option Nat) (facts : List Fact)
    (hfacts : ∀ φ ∈ facts, ∀ g, φ.g = some g → ∃ o, w.heap[g]? = some o ∧ φ.holds o) (hno : ∀ w', ¬ R .outgrown w')
    (h : ∀ a, StAt w G ⟨[], [], facts⟩ (args.map T.v ++ anys (fn.ntmps - args.length)) a w → WN P c (bodyPost P fn R) a w) : Calls P f (List.toArray args) w R := by
  intro cs
  let b : Frame := { (default : Frame) with fn := f, kind := .normal }
  have hen : Frame.enter P f (List.toArray args) .normal = b.at { tmps := List.toArray args ++ Array.replicate (fn.ntmps - (List.toArray args).size) undef, defers := [] } [.code c] := by
    simp [Frame.enter, Frame.at, hf, hb, b]
  have hanys : ∀ (n : Nat) (l : List Value), l.length = n → Rels [] [] (anys n) l := by
    intro n
    induction n with
    | zero => intro l hl; rw [List.eq_nil_of_length_eq_zero hl]; exact Rels.nil
    | succ n ih =>
      intro l hl
      cases l with
      | nil => simp at hl
      | cons y l => exact Rels.cons trivial (ih l (by simpa using hl))
  have hst : StAt w G ⟨[], [], facts⟩ (args.map T.v ++ anys (fn.ntmps - args.length)) { tmps := List.toArray args ++ Array.replicate (fn.ntmps - (List.toArray args).size) undef, defers := [] } w := by
    refine ⟨[], [], mem_plainG facts hfacts, ?_, rfl⟩
    have := (Rels.vals (β := []) (ρ := []) args).app (hanys (fn.ntmps - args.length) (List.replicate (fn.ntmps - args.length) undef) (by simp))
    simpa using this
  obtain ⟨e, a', w', hq, har⟩ := h _ hst b [] cs (by simp [b])
  rw [← hen] at har
  cases e with
  | normal =>
    obtain ⟨hd, v, hr, hR⟩ := hq
    exact ⟨.returned v, w', _, hR, Steps.trans har (.one step_end), rfl, rfl, hd, rfl, fn, hf, hr⟩
  | ret =>
    obtain ⟨hd, v, hr, hR⟩ := hq
    obtain ⟨todo, hs⟩ := har
    exact ⟨.returned v, w', _, hR, hs, rfl, rfl, hd, rfl, fn, hf, hr⟩
  | panic chain =>
    obtain ⟨hd, hR⟩ := hq
    obtain ⟨todo, hs⟩ := har
    exact ⟨.panicked chain, w', _, hR, hs, rfl, rfl, hd, fn, hf⟩
  | exit id => exact hq.elim
  | goto l => exact hq.elim
  | outgrown => exact absurd hq (hno _)
end
/-- What is known of a channel: its room, what waits in it, whether it is closed. -/
def chanF (g cap : Nat) (l : List Value) (cl : Bool) : Fact := ⟨some g, fun o => ∃ s r, o = .chan cap (List.toArray l) cl s r false⟩
theorem chan_grown {w : World} {g : Nat} {cap : Nat} {b b' : Array Value} {c c' : Bool} {s r s' r' : Nat} {tm : Bool} (h : w.heap[g]? = some (.chan cap b c s r tm)) : w.grownBy (w.setChan g cap b' c' s' r' tm) (some g) ∧ (w.setChan g cap b' c' s' r' tm).heap[g]? = some (.chan cap b' c' s' r' tm) := by
  have hlt := (Array.getElem?_eq_some_iff.1 h).1
  refine ⟨⟨rfl, rfl, rfl, by simp [World.setChan], fun k hk hne => ?_⟩, by simp [World.setChan, hlt]⟩
  simp only [World.setChan]
  rw [Array.getElem?_setIfInBounds_ne (fun e => hne (by simp [e]))]
section
variable {P : Program} {W : World} {G : Option Nat} {Q : Ending → World → Prop} {ds : List Deferred}
theorem op_makeChan {o : Oper} {m : M} {t : List T} {k : M → List T → T → Tree} {T0 e : TypeId} {dir : ChanDir} {i : TypeInfo} {x : Operand} {n : Nat}
    (ho : o.op = .makeChan T0 x) (hx : ev t x = .v (.int .i64 n)) (ht : P.underlying T0 = some (.chan dir e)) (hi : P.info? e = some i) (hn : (n : Int) ≤ 9223372036854775807) (hb : (i.bytes : Int) * n ≤ 281474976710544)
    (h : ∀ g, W.heap.size ≤ g → (∀ φ ∈ m.facts, φ.g ≠ some g) → (k { m with facts := chanF g n [] false :: m.facts } t (.v (.chan (some g)))).wpD P W G Q ds) : (Tree.op none o m t k).wpD P W G Q ds := by
  intro β ρ a w hm hr K Q' hK
  obtain ⟨dst, op, ty', pos, after, guard⟩ := o
  simp only at ho
  subst ho
  have e1 := hr.ev x
  rw [hx] at e1
  have e1 : a.eval x = .int .i64 n := e1
  unfold Oper.wp
  have : (execOp a.eval ⟨dst, .makeChan T0 x, ty', pos, after, guard⟩).run P w = .ok (.value (.chan (some w.heap.size))) (w.alloc (.chan n #[] false 0 0 false)) := by
    simp [execOp, e1, Go.Conc.run_makeChan ht hi .i64 n hn hb]
  rw [this]
  have hm' := (hm.grow ((Below.refl w.heap.size w).alloc (Nat.le_refl _) (.chan n #[] false 0 0 false))).learn [chanF w.heap.size n [] false] (by
    intro φ hφ g hg
    simp only [List.mem_singleton] at hφ
    subst hφ
    cases hg
    exact ⟨hm.apart (.inr (.inl (Nat.le_refl _))), _, heap_alloc_new w _, 0, 0, rfl⟩)
  exact hK _ t _ β ρ _ _ (h w.heap.size hm.grown.size (fun φ hφ hg => by
    obtain ⟨_, o, ho, _⟩ := hm.fact φ hφ _ hg
    have := (Array.getElem?_eq_some_iff.1 ho).1
    omega)) hm' hr rfl (fun F h => by cases h)
theorem op_close {o : Oper} {m : M} {t : List T} {k : M → List T → T → Tree} {x : Operand} {tys : Array TypeId} {g cap : Nat} {l : List Value} (fs : List Fact)
    (ho : o.op = .call ⟨.builtin .close, #[x], tys⟩) (hx : ev t x = .v (.chan (some g))) (hm : chanF g cap l false ∈ m.facts) (hW : W.heap.size ≤ g ∨ some g = G) (hfs : ∀ ψ ∈ fs, (ψ ∈ m.facts ∧ ψ.g ≠ some g) ∨ ψ = chanF g cap l true)
    (h : (k { m with facts := fs } t (.v (.tuple #[]))).wpD P W G Q ds) : (Tree.op none o m t k).wpD P W G Q ds := by
  intro β ρ a w hM hr K Q' hK
  obtain ⟨dst, op, ty', pos, after, guard⟩ := o
  simp only at ho
  subst ho
  have e1 := hr.ev x
  rw [hx] at e1
  have e1 : a.eval x = .chan (some g) := e1
  obtain ⟨_, ob, hob, s, r, rfl⟩ := hM.fact _ hm g rfl
  obtain ⟨hgr, hnew⟩ := chan_grown (b' := List.toArray l) (c' := true) (s' := s) (r' := r) hob
  unfold Oper.wp
  have hrun : (execOp a.eval ⟨dst, .call ⟨.builtin .close, #[x], tys⟩, ty', pos, after, guard⟩).run P w = .ok (.value (.tuple #[])) (w.setChan g cap (List.toArray l) true s r false) := by
    simp [execOp, resolve, invoke, builtin, e1, Go.run_close_open _ _ hob, World.setChan]
  rw [hrun]
  refine hK _ t (.v (.tuple #[])) β ρ _ _ h (hM.turn hm rfl hW hgr fun ψ hψ => ?_) hr rfl (fun F h => by cases h)
  rcases hfs ψ hψ with h | rfl
  · exact .inl h
  · exact .inr ⟨rfl, _, hnew, s, r, rfl⟩
end
end Go.Proofs.Ytoaohkllkooibaa.Sx
