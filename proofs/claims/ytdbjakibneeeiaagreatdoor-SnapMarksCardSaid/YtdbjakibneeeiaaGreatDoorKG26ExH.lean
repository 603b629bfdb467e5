/- What code comes to, reckoned: that it is so: whole functions. -/
import Derived.Test.YtdbjakibneeeiaaGreatDoorKG25ExF
set_option linter.all false
set_option maxHeartbeats 4000000
set_option maxRecDepth 100000
namespace Go.Proofs.YtdbjakibneeeiaaGreatDoor.Sx
open Go.RowKit
variable {P : Program} {W : World} {Q : Ending → World → Prop} {ds : List Deferred} {B : World → Prop} {D : EE} {E E' : Env} {Ob : Nat → Prop}
theorem xloop_succ {S R:Type} {step:S→Option (S ⊕ R)} {n:Nat} {x:S} {y:R} (h:xloop step (n+1) x=some y):(∃x',step x=some (.inl x')∧xloop step n x'=some y)∨step x=some (.inr y):=by
 have h:(match step x with
   | some (.inl y)=>xloop step n y
   | some (.inr r)=>some r
   | none=>none)=some y:=h
 split at h
 ·rename_i x' e;exact .inl ⟨x',e,h⟩
 ·rename_i r e;cases h;exact .inr e
 ·cases h
abbrev Goal (W:World) (ds:List Deferred) (Q':Exit→Act→World→Prop) (e:Exit) (m:M) (t:List T):Prop:=∀β ρ a w,Mem W none m β ρ w→Rels β ρ t a.tmps.toList→a.defers=ds→Q' e a w
abbrev XSound (P:Program) (W:World) (ds:List Deferred) (Ob:Nat→Prop) (E':Env) (sch:List (Nat×(Ord×List Nat))) (G:XG) (c:Code):Prop:=
 schedOk sch c=true→∀{R:Type} {S:Same R} {r:R} {fs:List Fact} {md:MD} {m:M} {td:List TD} {t:List T} {ke:XE R} {Q':Exit→Act→World→Prop},RM Ob fs md m→RTs fs td t→G c R S md td ke=some r→
  (∀e fs' md td m t,RM Ob fs' md m→RTs fs' td t→ke e md td=some r→Goal W ds Q' e m t)→∀β ρ a w,Mem W none m β ρ w→Rels β ρ t a.tmps.toList→a.defers=ds→c.wp P Q' a w
theorem loop_ruleS {G:Option Nat} {body:Code} {m:M} {t:List T} {k:Exit→M→List T→Tree} {ι:Type} (ok:ι→Prop) (I:ι→M×List T) (μ:ι→Nat) (i0:ι) (k0:ok i0)
  (h0:Tk W G m t (I i0).1 (I i0).2)
  (round:∀i,ok i→∀β ρ a w,Mem W G (I i).1 β ρ w→Rels β ρ (I i).2 a.tmps.toList→a.defers=ds→body.wp P (fun e a' w'=>match e with | .normal=>∃j β' ρ',ok j∧μ j<μ i∧Mem W G (I j).1 β' ρ' w'∧Rels β' ρ' (I j).2 a'.tmps.toList∧a'.defers=ds | e=>∃m2 t2 β' ρ',Mem W G m2 β' ρ' w'∧Rels β' ρ' t2 a'.tmps.toList∧a'.defers=ds∧(k e m2 t2).wpD P W G Q ds) a w) :
  (Tree.loop body m t k).wpD P W G Q ds:=by
 intro β ρ a w hm hr hd
 refine wp_loop_ghost (fun n a w=>∃i β ρ,ok i∧μ i=n∧Mem W G (I i).1 β ρ w∧Rels β ρ (I i).2 a.tmps.toList∧a.defers=ds) (μ i0) (by obtain ⟨_,_,a1,a2⟩:=h0 _ _ _ _ hm hr;exact ⟨i0,_,_,k0,rfl,a1,a2,hd⟩) ?_
 rintro n a w ⟨i,β,ρ,hi,rfl,hm,hr,hd⟩
 refine Code.wp_mono ?_ (round i hi β ρ a w hm hr hd)
 intro e a' w' hh
 cases e with
 | normal=>
  obtain ⟨j,β',ρ',hj,hlt,a1,a2,hd'⟩:=hh
  exact ⟨μ j,hlt,j,_,_,hj,rfl,a1,a2,hd'⟩
 | _=>
  obtain ⟨m2,t2,β',ρ',a1,a2,hd',hk⟩:=hh
  exact ⟨m2,t2,_,_,a1,a2,hd',hk⟩
theorem scope_ruleS {G:Option Nat} {body rest:Code} (l:Nat) (hl:findLabel body l=some rest) {m:M} {t:List T} {k:Exit→M→List T→Tree} {ι:Type} (ok:ι→Prop) (I:ι→M×List T) (μ:ι→Nat)
  (first:∀β ρ a w,Mem W G m β ρ w→Rels β ρ t a.tmps.toList→a.defers=ds→body.wp P (fun e a' w'=>match e with | .goto l'=>l'=l∧∃j β' ρ',ok j∧Mem W G (I j).1 β' ρ' w'∧Rels β' ρ' (I j).2 a'.tmps.toList∧a'.defers=ds | e=>∃m2 t2 β' ρ',Mem W G m2 β' ρ' w'∧Rels β' ρ' t2 a'.tmps.toList∧a'.defers=ds∧(k e m2 t2).wpD P W G Q ds) a w)
  (round:∀i,ok i→∀β ρ a w,Mem W G (I i).1 β ρ w→Rels β ρ (I i).2 a.tmps.toList→a.defers=ds→rest.wp P (fun e a' w'=>match e with | .goto l'=>l'=l∧∃j β' ρ',ok j∧μ j<μ i∧Mem W G (I j).1 β' ρ' w'∧Rels β' ρ' (I j).2 a'.tmps.toList∧a'.defers=ds | e=>∃m2 t2 β' ρ',Mem W G m2 β' ρ' w'∧Rels β' ρ' t2 a'.tmps.toList∧a'.defers=ds∧(k e m2 t2).wpD P W G Q ds) a w) :
  (Tree.scope body m t k).wpD P W G Q ds:=by
 intro β ρ a w hm hr hd
 let I':Nat→Act→World→Prop:=fun n a w=>∃i β ρ,ok i∧μ i=n∧Mem W G (I i).1 β ρ w∧Rels β ρ (I i).2 a.tmps.toList∧a.defers=ds
 refine wp_scope_jumps l (fun a w=>∃n,I' n a w) (fun a w=>leastOf (fun n=>I' n a w)) hl ?_ ?_
 ·refine Code.wp_mono ?_ (first β ρ a w hm hr hd)
  intro e a' w' hh
  cases e with
  | goto l'=>
   obtain ⟨e,j,β',ρ',hj,a1,a2,hd'⟩:=hh
   exact ⟨e,μ j,j,_,_,hj,rfl,a1,a2,hd'⟩
  | _=>
   obtain ⟨m2,t2,β',ρ',a1,a2,hd',hk⟩:=hh
   exact ⟨m2,t2,_,_,a1,a2,hd',hk⟩
 ·intro a w hJ
  obtain ⟨i,β,ρ,hok,hi,hm,hr,hd⟩:=(leastOf_spec hJ).1
  refine Code.wp_mono ?_ (round i hok β ρ a w hm hr hd)
  intro e a' w' hh
  cases e with
  | goto l'=>
   obtain ⟨e,j,β',ρ',hj,hlt,a1,a2,hd'⟩:=hh
   have hn:I' (μ j) a' w':=⟨j,_,_,hj,rfl,a1,a2,hd'⟩
   exact ⟨e,⟨μ j,hn⟩,Nat.lt_of_le_of_lt ((leastOf_spec ⟨μ j,hn⟩).2 (μ j) hn) (hi▸hlt)⟩
  | _=>
   obtain ⟨m2,t2,β',ρ',a1,a2,hd',hk⟩:=hh
   exact ⟨m2,t2,_,_,a1,a2,hd',hk⟩
theorem calls_of_sem {E:Env} (hE:E.Ok P) {f:FuncId} {fn:Func} {c:Code} (hf:P.funcs[f]?=some fn) (hb:fn.body=some c) {args:List Value} {w:World} {R:Ending→World→Prop}
  (facts:List Fact) (hfacts:∀φ∈facts,∀g,φ.g=some g→∃o,w.heap[g]?=some o∧φ.holds o)
  (h:∀Q',(∀e m t,(finish E fn.results.toList e m t).wpD P w none R []→Goal w [] Q' e m t)→∀a,Mem w none ⟨[],[],facts⟩ [] [] w→Rels [] [] (args.map T.v++anys (fn.ntmps - args.length)) a.tmps.toList→a.defers=[]→c.wp P Q' a w):Calls P f (List.toArray args) w R:=by
 refine calls_of_wp hf hb ?_
 have hanys:∀(n:Nat) (l:List Value),l.length=n→Rels [] [] (anys n) l:=by
  intro n
  induction n with
  | zero=>intro l hl;rw [List.eq_nil_of_length_eq_zero hl];exact Rels.nil
  | succ n ih=>
   intro l hl
   cases l with
   | nil=>simp at hl
   | cons y l=>exact Rels.cons trivial (ih l (by simpa using hl))
 refine h _ ?_ _ (mem_plain facts hfacts) ?_ rfl
 ·intro e m' t' hh β ρ a w' hm hr hd
  have fin:(resAll E fn.results.toList m' t' (fun vs m=>.ret (tup vs) m)).wp P w none R→∃v,(results fn a.tmps).run P w'=.ok v w'∧R (.returned v) w':=by
   intro hh
   obtain ⟨vs,m2,h2,hm2,hrun⟩:=res_sound hE _ _ _ _ hm hr hh
   exact ⟨_,results_run hrun,h2 _ _ _ hm2⟩
  cases e with
  | normal=>exact ⟨hd,fin hh⟩
  | ret=>exact ⟨hd,fin hh⟩
  | _=>exact hh.elim
 ·have:=(Rels.vals args).app (hanys (fn.ntmps - args.length) (List.replicate (fn.ntmps - args.length) undef) (by simp))
  simpa using this
theorem exit_at {fs:List Fact} {md:MD} {m:M} {td:List TD} {t:List T} {l:List (Exit×Lay)} {e:Exit} {y:ExT l} {R:Type} {r:R} {ke:XE R} {k:Exit→M→List T→Tree} (hg:grabE l e md td=some y) (hc:contE l y ke=some r) (hm:RM Ob fs md m) (ht:RTs fs td t)
  (K:∀e fs' md td m t,RM Ob fs' md m→RTs fs' td t→ke e md td=some r→(k e m t).wpD P W none Q ds):∃m2 t2,Tk W none m t m2 t2∧(k e m2 t2).wpD P W none Q ds:=by
 obtain ⟨h,x,g1,g2⟩:=grabE_at hg
 rw [g2] at hc
 obtain ⟨m2,t2,hle,hm2,ht2⟩:=grabN_at g1 hm ht
 exact ⟨m2,t2,hle,K _ _ _ _ _ _ hm2 ht2 hc⟩
theorem loop_share {body:Code} {m:M} {t:List T} {k:Exit→M→List T→Tree} {i:Nat} {x:T} (hx:t[i]?=some x) (h:(shareOne x m t (fun _ m t=>Tree.loop body m t k)).wpD P W none Q ds):(Tree.loop body m t k).wpD P W none Q ds:=by
 intro β ρ a w hm hr hd
 obtain ⟨y,hy,hxy⟩:=hr.2 i x hx
 obtain ⟨x',m',t',h,hm',hr',_⟩:=shareOne_sound hm hr hxy h
 exact h β ρ a w hm' hr' hd
theorem xnil_sound (hOb:∀g,W.heap.size≤g→Ob g) {sy:List (TypeId×Sh)} {body:Code} {k:Exit→M→List T→Tree} {R:Type} {r:R} {ke:XM R}:∀(Z:List NilAt) {fs:List Fact} {md:MD} {m:M} {td:List TD} {t:List T},RM Ob fs md m→RTs fs td t→xnil sy Z md td ke=some r→
  (∀fs md td m t,RM Ob fs md m→RTs fs td t→ke md td=some r→(Tree.loop body m t k).wpD P W none Q ds)→(Tree.loop body m t k).wpD P W none Q ds
 | [],fs,md,m,td,t,hm,ht,h,K=>K _ _ _ _ _ hm ht h
 | .share i::Z,fs,md,m,td,t,hm,ht,h,K=>by
  unfold xnil at h
  split at h
  ·rename_i x hx
   obtain ⟨y,hy,hxy⟩:=ht.2 i x hx
   refine loop_share hy ?_
   exact dshareOne_sound (fun g h=>h.elim (hOb g) (fun h=>by cases h)) (sy:=sy) hxy hm ht (xshareOne_d (kd:=fun _ md td=>xnil sy Z md td ke=some r) h fun _ _ _ h=>h) fun fs' xd md td x m t _ _ hm ht h=>xnil_sound hOb Z hm ht h K
  ·cases h
 | .slot d e s::Z,fs,md,m,td,t,hm,ht,h,K=>by
  unfold xnil at h
  split at h
  ·rename_i hd
   obtain ⟨y,hy,hr⟩:=ht.2 d _ hd
   have hr:y=_:=hr
   subst hr
   refine loop_nil d e s.size (by rw [nth_eq];exact hy) ?_
   have hm2:=hm.addRow (r:=⟨e,s.size,s,[]⟩) (xs:=[]) rfl rfl
   rw [← hm.rl]
   exact xnil_sound hOb Z hm2 (ht.set d (x:=.r md.rows.length) (y:=.r md.rows.length) rfl) h K
  ·cases h
 | .cell i d e s::Z,fs,md,m,td,t,hm,ht,h,K=>by
  unfold xnil at h
  split at h
  ·rename_i b o _
   split at h
   ·rename_i cs ty hb
    split at h
    ·rename_i hd
     obtain ⟨ts,h1,h2⟩:=hm.own b cs ty (Option.join_eq_some_iff.1 hb)
     obtain ⟨y,hy,hr⟩:=h2.2 d _ hd
     have hr:y=_:=hr
     subst hr
     refine loop_nilC b d e s.size ts ty h1 hy ?_
     have hm2:=(hm.addRow (r:=⟨e,s.size,s,[]⟩) (xs:=[]) rfl rfl).setOwn b ty (h2.set d (x:=.r md.rows.length) (y:=.r md.rows.length) rfl)
     rw [← hm.rl]
     exact xnil_sound hOb Z hm2 ht h K
    ·cases h
   ·cases h
  ·cases h
theorem xregion_sound (hD:D.toD.Oks E P B E') (hq:E'.quiet=false) (hop:E'.opens=[]) (hbare:E'.bare=false) (hB:∀w,Below W.heap.size W w→B w) (hOb:∀g,W.heap.size≤g→Ob g) (H:FH) {id:Nat} {os:Array Oper} {draw:Bool} {R:Type} {S:Same R} {r:R} {fs:List Fact} {md:MD} {m:M} {td:List TD} {t:List T} {ke:XM R} {k:Exit→M→List T→Tree}
  (hm:RM Ob fs md m) (ht:RTs fs td t) (h:xregion P E' D H id os draw R S md td ke=some r) (K:∀fs' md td m t,RM Ob fs' md m→RTs fs' td t→ke md td=some r→(k .normal m t).wpD P W none Q ds):(exec E' H.sch (.region id os draw) m t k).wpD P W none Q ds:=by
 cases draw with
 | false=>exact dops_sound (E':={ E' with base:=E'.base }) (X:=none) hD ⟨hq,hop⟩ hB hOb _ hm (fun _ h=>h) (fun h=>absurd rfl h) hm ht (xops_d (b:=E'.base) (kd:=fun md td=>ke md td=some r) h fun _ _ h=>h) fun fs' md td m t _ _ hm ht h=>K _ _ _ _ _ hm ht h
 | true=>
  unfold xregion at h
  unfold exec
  simp only at h ⊢
  cases hl:E'.lead with
  | succ n=>rw [hl] at h;cases h
  | zero=>
   rw [hl] at h
   simp only at h
   refine dshareAll_sound (fun g h=>h.elim (hOb g) (fun h=>by cases h)) _ _ (dpres_rel _) hm ht (xshareAll_d (kd:=fun _ m t=>(match lk H.sch id with
    | some (l,X)=>gd (dalive m X) (xopsS P { E' with quiet:=true,lead:=0 } D (some X) os.toList (l.forks+1) l true (m.hide X) m t ke)
    | none=>none)=some r) h fun _ _ _ h=>h) fun fs' cs' md td ts' m t _ _ hm ht h=>?_
   cases hk:lk H.sch id with
   | none=>rw [hk] at h;cases h
   | some q=>
    obtain ⟨l,X⟩:=q
    rw [hk] at h
    simp only at h ⊢
    rw [gd_some] at h
    obtain ⟨ha,h⟩:=h
    rw [dalive_rel hm X ha,hbare]
    refine dopsS_sound (E':={ E' with quiet:=true,base:=m.facts,lead:=0,bare:=false }) ⟨hD.ok,hD.zero,hD.agg,hD.str,hD.keep,⟨hD.eok.zero,hD.eok.agg1,hD.eok.aggN,hD.eok.off,hD.eok.row,hD.eok.str,hD.eok.strs,hD.eok.ints,hD.eok.size,hD.eok.mixed,hD.eok.row1,hD.eok.meth,hD.eok.arr⟩⟩ ⟨rfl,rfl⟩ hop hB hOb _ l (st:=true) (hm.hide X) (fun _ h=>h) (fun _=>rfl) hm ht (kd:=fun md td=>ke md td=some r) ?_ fun fs' md td m t hm ht h=>K _ _ _ _ _ hm ht h
    have h2:=xopsS_d (E:={ E' with quiet:=true,lead:=0 }) (b:=m.facts) (kd:=fun md td=>ke md td=some r) h fun _ _ h=>h
    rw [show ({ E' with quiet:=true,base:=m.facts,lead:=0,bare:=false }:Env)={ E' with quiet:=true,lead:=0,base:=m.facts } by rw [← hbare]]
    exact h2
theorem xexecG_sound (hD:D.toD.Oks E P B E') (hq:E'.quiet=false) (hop:E'.opens=[]) (hbare:E'.bare=false) (hB:∀w,Below W.heap.size W w→B w) (hOb:∀g,W.heap.size≤g→Ob g) (H:FH) {G:XG} (hG:∀c,XSound P W ds Ob E' H.sch G c) :
  ∀c,XSound P W ds Ob E' H.sch (xexecG P E' D H G) c
 | .skip,_,R,S,r,fs,md,m,td,t,ke,Q',hm,ht,h,K,β,ρ,a,w,hM,hR,hd=>wp_skip (K _ _ _ _ _ _ hm ht h _ _ _ _ hM hR hd)
 | .region id os draw,hs,R,S,r,fs,md,m,td,t,ke,Q',hm,ht,h,K,β,ρ,a,w,hM,hR,hd=>by
  refine exec_sound (G:=none) (W:=W) (Q:=fun _ _=>True) (ds:=ds) hD.eok H.sch (.region id os draw) hs m t (fun e m t=>.done (Goal W ds Q' e m t)) Q' β ρ a w (fun e m' t' hh=>hh) hM hR hd ?_
  unfold xexecG at h
  cases hj:lk H.joins id with
  | none=>
   rw [hj] at h
   exact xregion_sound hD hq hop hbare hB hOb H hm ht h (fun fs' md td m t hm ht h=>K _ _ _ _ _ _ hm ht h)
  | some hl=>
   rw [hj] at h
   simp only at h
   split at h
   ·cases h
   ·rename_i x hx
    refine xregion_sound hD hq hop hbare hB hOb H hm ht hx (fun fs' md td m t hm ht hg=>?_)
    obtain ⟨m',t',l1,hm1,ht1⟩:=grabN_at (W:=W) (G:=none) hg hm ht
    intro β ρ a w hM hR hd
    obtain ⟨β',ρ',a1,a2⟩:=l1 β ρ a w hM hR
    exact K _ _ _ _ _ _ hm1 ht1 h β' ρ' a w a1 a2 hd
 | .seq a b,hs,R,S,r,fs,md,m,td,t,ke,Q',hm,ht,h,K,β,ρ,a',w,hM,hR,hd=>by
  simp only [schedOk,Bool.and_eq_true] at hs
  refine wp_seq (xexecG_sound hD hq hop hbare hB hOb H hG a hs.1 hm ht h (fun e fs' md td m t hm ht h=>?_) β ρ a' w hM hR hd)
  intro β ρ a w hM hR hd
  cases e with
  | normal=>exact xexecG_sound hD hq hop hbare hB hOb H hG b hs.2 hm ht h K β ρ a w hM hR hd
  | _=>exact K _ _ _ _ _ _ hm ht h _ _ _ _ hM hR hd
 | .cond c x y,hs,R,S,r,fs,md,m,td,t,ke,Q',hm,ht,h,K,β,ρ,a,w,hM,hR,hd=>by
  simp only [schedOk,Bool.and_eq_true] at hs
  unfold xexecG at h
  have hc:=ht.ev c
  have hr:=hR.ev c
  split at h
  ·rename_i bb hdv
   rw [hdv] at hc
   have hc:ev t c=.v (.bool bb):=hc
   rw [hc] at hr
   have hr:a.eval c=.bool bb:=hr
   cases bb with
   | true=>exact wp_cond_true hr (xexecG_sound hD hq hop hbare hB hOb H hG x hs.1 hm (dsetB_rel ht c true) h K β ρ a w hM (setB_rels hR hc) hd)
   | false=>exact wp_cond_false hr (xexecG_sound hD hq hop hbare hB hOb H hG y hs.2 hm (dsetB_rel ht c false) h K β ρ a w hM (setB_rels hR hc) hd)
  ·cases h
 | .block id b,hs,R,S,r,fs,md,m,td,t,ke,Q',hm,ht,h,K,β,ρ,a,w,hM,hR,hd=>by
  refine wp_block (xexecG_sound hD hq hop hbare hB hOb H hG b hs hm ht h (fun e fs' md td m t hm ht h=>?_) β ρ a w hM hR hd)
  intro β ρ a w hM hR hd
  cases e with
  | exit i=>
   simp only [Exit.inBlock]
   simp only at h
   cases hi:i==id with
   | true=>
    have:i=id:=by simpa using hi
    rw [if_pos this]
    rw [hi] at h;exact K _ _ _ _ _ _ hm ht h _ _ _ _ hM hR hd
   | false=>
    have:¬ i=id:=by simpa using hi
    rw [if_neg this]
    rw [hi] at h;exact K _ _ _ _ _ _ hm ht h _ _ _ _ hM hR hd
  | _=>exact K _ _ _ _ _ _ hm ht h _ _ _ _ hM hR hd
 | .loop b,hs,R,S,r,fs,md,m,td,t,ke,Q',hm,ht,h,K,β,ρ,a,w,hM,hR,hd=>by
  refine exec_sound (G:=none) (W:=W) (Q:=fun _ _=>True) (ds:=ds) hD.eok H.sch (.loop b) hs m t (fun e m t=>.done (Goal W ds Q' e m t)) Q' β ρ a w (fun e m' t' hh=>hh) hM hR hd ?_
  unfold xexecG at h
  split at h
  ·cases h
  ·rename_i i hi
   split at h
   ·cases h
   ·rename_i hh hlk
    show (Tree.loop b m t (fun e m t=>.done (Goal W ds Q' e m t))).wpD P W none (fun _ _=>True) ds
    refine xnil_sound hOb hh.nil hm ht h fun fs md td m t hm ht h=>?_
    split at h
    ·cases h
    ·rename_i x0 hg
     split at h
     ·cases h
     ·rename_i y hl
      obtain ⟨m',t',l0,hm0,ht0⟩:=grabN_at hg hm ht
      have hs:schedOk H.sch b=true:=hs
      refine loop_ruleS (ι:=(Nat×hh.head.T)×List Fact×M×List T) (fun q=>xloop (fun x=>xexecG P E' D H G b (hh.head.T ⊕ ExT hh.exits) (@sameS _ _ inferInstance (exS hh.exits)) (lay hh.head x).1 (lay hh.head x).2 (xend hh)) q.1.1 q.1.2=some y∧RM Ob q.2.1 (lay hh.head q.1.2).1 q.2.2.1∧RTs q.2.1 (lay hh.head q.1.2).2 q.2.2.2) (fun q=>q.2.2) (fun q=>q.1.1) ((xmany,x0),fs,m',t') ⟨hl,hm0,ht0⟩ l0 ?_
      rintro ⟨⟨n,x⟩,fs,m,t⟩ ⟨hi,hm,ht⟩ β ρ a w hM hR hd
      cases n with
      | zero=>cases hi
      | succ n=>
       rcases xloop_succ hi with ⟨x',h1,h2⟩ | h1
       ·refine xexecG_sound hD hq hop hbare hB hOb H hG b hs hm ht h1 (fun e fs' md td m t hm ht h=>?_) β ρ a w hM hR hd
        intro β ρ a w hM hR hd
        cases e with
        | normal=>
         simp only [xend] at h
         split at h
         ·rename_i x2 hg2
          cases h
          obtain ⟨m',t',l1,hm1,ht1⟩:=grabN_at (W:=W) (G:=none) hg2 hm ht
          obtain ⟨β',ρ',a1,a2⟩:=l1 β ρ a w hM hR
          exact ⟨((n,x'),fs',m',t'),β',ρ',⟨h2,hm1,ht1⟩,Nat.lt_succ_self n,a1,a2,hd⟩
         ·cases h
        | _=>
         simp only [xend] at h
         split at h <;> cases h
       ·refine xexecG_sound hD hq hop hbare hB hOb H hG b hs hm ht h1 (fun e fs' md td m t hm ht h'=>?_) β ρ a w hM hR hd
        intro β ρ a w hM hR hd
        cases e with
        | normal=>
         simp only [xend] at h'
         split at h' <;> cases h'
        | _=>
         simp only [xend] at h'
         split at h'
         ·rename_i y2 hg2
          cases h'
          obtain ⟨m2,t2,hle,hk⟩:=exit_at (Q:=fun _ _=>True) (ds:=ds) (P:=P) (W:=W) (k:=fun e m t=>.done (Goal W ds Q' e m t)) hg2 h hm ht K
          obtain ⟨β',ρ',a1,a2⟩:=hle β ρ a w hM hR
          exact ⟨m2,t2,β',ρ',a1,a2,hd,hk⟩
         ·cases h'
 | .exit id,_,R,S,r,fs,md,m,td,t,ke,Q',hm,ht,h,K,β,ρ,a,w,hM,hR,hd=>wp_exit (K _ _ _ _ _ _ hm ht h _ _ _ _ hM hR hd)
 | .label _,_,R,S,r,fs,md,m,td,t,ke,Q',hm,ht,h,K,β,ρ,a,w,hM,hR,hd=>wp_label (K _ _ _ _ _ _ hm ht h _ _ _ _ hM hR hd)
 | .goto l,_,R,S,r,fs,md,m,td,t,ke,Q',hm,ht,h,K,β,ρ,a,w,hM,hR,hd=>wp_goto (K _ _ _ _ _ _ hm ht h _ _ _ _ hM hR hd)
 | .ret,_,R,S,r,fs,md,m,td,t,ke,Q',hm,ht,h,K,β,ρ,a,w,hM,hR,hd=>wp_ret (K _ _ _ _ _ _ hm ht h _ _ _ _ hM hR hd)
 | .scope b,hs,R,S,r,fs,md,m,td,t,ke,Q',hm,ht,h,K,β,ρ,a,w,hM,hR,hd=>by
  refine exec_sound (G:=none) (W:=W) (Q:=fun _ _=>True) (ds:=ds) hD.eok H.sch (.scope b) hs m t (fun e m t=>.done (Goal W ds Q' e m t)) Q' β ρ a w (fun e m' t' hh=>hh) hM hR hd ?_
  clear hM hR hd β ρ a w
  unfold xexecG at h
  split at h
  ·cases h
  ·rename_i i hi
   split at h
   ·cases h
   ·rename_i hh hlk
    split at h
    ·cases h
    ·rename_i rest hl
     rw [gd_some] at h
     obtain ⟨hs2,h⟩:=h
     show (Tree.scope b m t (fun e m t=>.done (Goal W ds Q' e m t))).wpD P W none (fun _ _=>True) ds
     have hs:schedOk H.sch b=true:=hs
     let step:hh.head.T→Option (hh.head.T ⊕ ExT hh.exits):=fun x=>G rest (hh.head.T ⊕ ExT hh.exits) (@sameS _ _ inferInstance (exS hh.exits)) (lay hh.head x).1 (lay hh.head x).2 (xendL hh)
     split at h
     ·cases h
     ·rename_i y hf
      refine scope_ruleS hh.label hl (ι:=Empty) (fun _=>False) (fun q=>nomatch q) (fun q=>nomatch q) ?_ (fun q=>nomatch q)
      intro β ρ a w hM hR hd
      refine xexecG_sound hD hq hop hbare hB hOb H hG b hs hm ht hf (fun e fs' md td m t hm ht h'=>?_) β ρ a w hM hR hd
      intro β ρ a w hM hR hd
      cases e with
      | goto l'=>
       simp only [xendL] at h'
       split at h'
       ·split at h' <;> cases h'
       ·cases h'
      | _=>
       simp only [xendL] at h'
       split at h'
       ·rename_i y2 hg2
        cases h'
        obtain ⟨m2,t2,hle,hk⟩:=exit_at (Q:=fun _ _=>True) (ds:=ds) (P:=P) (W:=W) (k:=fun e m t=>.done (Goal W ds Q' e m t)) hg2 h hm ht K
        obtain ⟨β',ρ',a1,a2⟩:=hle β ρ a w hM hR
        exact ⟨m2,t2,β',ρ',a1,a2,hd,hk⟩
       ·cases h'
     ·rename_i x0 hf
      split at h
      ·cases h
      ·rename_i y hy
       have exitCase:∀{e:Exit} {fs':List Fact} {md:MD} {td:List TD} {m:M} {t:List T} {β:List Nat} {ρ:List Value} {a:Act} {w:World},grabE hh.exits e md td=some y→RM Ob fs' md m→RTs fs' td t→Mem W none m β ρ w→Rels β ρ t a.tmps.toList→a.defers=ds→∃m2 t2 β' ρ',Mem W none m2 β' ρ' w∧Rels β' ρ' t2 a.tmps.toList∧a.defers=ds∧((fun e m t=>Tree.done (Goal W ds Q' e m t)) e m2 t2).wpD P W none (fun _ _=>True) ds:=fun hg hm ht hM hR hd=>by
        obtain ⟨m2,t2,hle,hk⟩:=exit_at (Q:=fun _ _=>True) (ds:=ds) (P:=P) (W:=W) (k:=fun e m t=>.done (Goal W ds Q' e m t)) hg h hm ht K
        obtain ⟨β',ρ',a1,a2⟩:=hle _ _ _ _ hM hR
        exact ⟨m2,t2,β',ρ',a1,a2,hd,hk⟩
       refine scope_ruleS hh.label hl (ι:=(Nat×hh.head.T)×List Fact×M×List T) (fun q=>xloop step q.1.1 q.1.2=some y∧RM Ob q.2.1 (lay hh.head q.1.2).1 q.2.2.1∧RTs q.2.1 (lay hh.head q.1.2).2 q.2.2.2) (fun q=>q.2.2) (fun q=>q.1.1) ?_ ?_
       ·intro β ρ a w hM hR hd
        refine xexecG_sound hD hq hop hbare hB hOb H hG b hs hm ht hf (fun e fs' md td m t hm ht h'=>?_) β ρ a w hM hR hd
        intro β ρ a w hM hR hd
        cases e with
        | goto l'=>
         simp only [xendL] at h'
         split at h'
         ·rename_i hl'
          split at h'
          ·rename_i x2 hg2
           cases h'
           obtain ⟨m',t',l1,hm1,ht1⟩:=grabN_at (W:=W) (G:=none) hg2 hm ht
           obtain ⟨β',ρ',a1,a2⟩:=l1 β ρ a w hM hR
           exact ⟨eq_of_beq hl',((xmany,x0),fs',m',t'),β',ρ',⟨hy,hm1,ht1⟩,a1,a2,hd⟩
          ·cases h'
         ·cases h'
        | _=>
         simp only [xendL] at h'
         split at h' <;> cases h'
       ·rintro ⟨⟨n,x⟩,fs,m,t⟩ ⟨hi,hm,ht⟩ β ρ a w hM hR hd
        cases n with
        | zero=>cases hi
        | succ n=>
         rcases xloop_succ hi with ⟨x',h1,h2⟩ | h1
         ·refine hG rest hs2 hm ht h1 (fun e fs' md td m t hm ht h'=>?_) β ρ a w hM hR hd
          intro β ρ a w hM hR hd
          cases e with
          | goto l'=>
           simp only [xendL] at h'
           split at h'
           ·rename_i hl'
            split at h'
            ·rename_i x2 hg2
             cases h'
             obtain ⟨m',t',l1,hm1,ht1⟩:=grabN_at (W:=W) (G:=none) hg2 hm ht
             obtain ⟨β',ρ',a1,a2⟩:=l1 β ρ a w hM hR
             exact ⟨eq_of_beq hl',((n,x'),fs',m',t'),β',ρ',⟨h2,hm1,ht1⟩,Nat.lt_succ_self n,a1,a2,hd⟩
            ·cases h'
           ·cases h'
          | _=>
           simp only [xendL] at h'
           split at h' <;> cases h'
         ·refine hG rest hs2 hm ht h1 (fun e fs' md td m t hm ht h'=>?_) β ρ a w hM hR hd
          intro β ρ a w hM hR hd
          cases e with
          | goto l'=>
           simp only [xendL] at h'
           split at h'
           ·rename_i hl'
            split at h'
            ·rename_i x2 hg2
             cases h'
            ·cases h'
           ·cases h'
          | _=>
           simp only [xendL] at h'
           split at h'
           ·rename_i y2 hg2
            cases h'
            exact exitCase hg2 hm ht hM hR hd
           ·cases h'
theorem xexec_sound (hD:D.toD.Oks E P B E') (hq:E'.quiet=false) (hop:E'.opens=[]) (hbare:E'.bare=false) (hB:∀w,Below W.heap.size W w→B w) (hOb:∀g,W.heap.size≤g→Ob g) (H:FH) (c:Code):XSound P W ds Ob E' H.sch (xexec P E' D H) c:=
 xexecG_sound hD hq hop hbare hB hOb H (fun c=>xexecG_sound hD hq hop hbare hB hOb H (fun c _ _ _ _ _ _ _ _ _ _ _ _ _ h _=>by cases h) c) c
theorem xfun_ok (hD:D.toD.Oks E P B E') (hq:E'.quiet=false) (hop:E'.opens=[]) (hbare:E'.bare=false) (hBB:∀w w',B w→Below w.heap.size w w'→B w') {f:FuncId} {fn:Func} {c:Code} (hf:P.funcs[f]?=some fn) (hb:fn.body=some c) (H:FH) (hs:schedOk H.sch c=true) {ps rs:List Sh} :
  (ESm.toS ⟨ps,rs,xfun P E' D H f ps rs⟩).Ok P B f:=by
 have hD0:=hD
 have hD:D.toD.Oks E P B { E' with pre:=H.pre }:=⟨hD0.ok,hD0.zero,hD0.agg,hD0.str,hD0.keep,⟨hD0.eok.zero,hD0.eok.agg1,hD0.eok.aggN,hD0.eok.off,hD0.eok.row,hD0.eok.str,hD0.eok.strs,hD0.eok.ints,hD0.eok.size,hD0.eok.mixed,hD0.eok.row1,hD0.eok.meth,hD0.eok.arr⟩⟩
 intro O w x vs hw hpre hl
 have hpre:(xfun P E' D H f ps rs x).isSome=true:=hpre
 cases hF:xfun P E' D H f ps rs x with
 | none=>rw [hF] at hpre;cases hpre
 | some y=>
  have hFy:(ESm.toS ⟨ps,rs,xfun P E' D H f ps rs⟩).F x=y:=by show (xfun P E' D H f ps rs x).getD _=y;rw [hF];rfl
  rw [hFy]
  unfold xfun at hF
  rw [hf] at hF
  simp only at hF
  rw [hb] at hF
  simp only at hF
  obtain ⟨gs,h1,h2⟩:=LieA.got hl
  have hlen:=lieA_len h1
  have hOb:∀g,w.heap.size≤g→(fun g=>w.heap.size≤g∨O g) g:=fun g h=>.inl h
  refine calls_of_sem hD.eok hf hb gs (fun φ hφ g hg=>?_) (fun Q' hQ a hM hR hd=>?_)
  ·obtain ⟨a,ys,rfl,h3,h4⟩:=h2 φ hφ
   exact h3 g hg
  ·refine xexec_sound (Ob:=fun g=>w.heap.size≤g∨O g) (W:=w) (ds:=[]) hD hq hop hbare (fun w' hb=>hBB w w' hw hb) hOb H c hs (fs:=gs) (md:=⟨[],[]⟩) (Q':=Q') ⟨rfl,fun φ hφ g hg=>?_,rfl,fun b cs ty hb=>by simp at hb,rfl,fun i r hr=>by simp at hr⟩ ((tdsOf_rel h1).rts.app ?_) hF (fun e fs' md td m t hm ht hk=>hQ e m t ?_) [] [] a w hM hR hd
   ·obtain ⟨a,ys,rfl,h3,h4⟩:=h2 φ hφ
    exact .inr (h4 g hg)
   ·rw [hlen];exact danys_rel _
   ·have fin:xresAll { E' with pre:=H.pre } D.sy fn.results.toList md td (fun us=>packA rs us)=some y→(resAll { E' with pre:=H.pre } fn.results.toList m t (fun vs m=>.ret (tup vs) m)).wpD P w none (fun e w'=>∃us,e=.returned (tup us)∧Below w.heap.size w w'∧LieA (AtO w' fun g=>w.heap.size≤g∨O g) rs y us) []:=fun hk=>by
     refine dres_sound (E':={ E' with pre:=H.pre,base:=E'.base }) hOb _ hm ht (xresAll_d (b:=E'.base) (kd:=fun us=>packA rs us=some y) hk fun _ h=>h) fun fs2 us vs md m hs2 hm hu hp β ρ w' hM=>?_
     obtain ⟨vs',e1,h5⟩:=packA_rel hp hu.rts
     have e1:vs=vs':=by
      have:=congrArg (List.map fun t:T=>match t with | .v u=>u | _=>undef) e1
      simpa [List.map_map,Function.comp_def] using this
     subst e1
     refine ⟨vs,rfl,hM.below,LieA.mono (fun a xs h=>?_) h5⟩
     rw [← hm.fe] at h
     refine ⟨at_inF hM a xs h,fun g hg=>?_⟩
     rcases h with rfl | ⟨φ,h1,h2,_⟩
     ·cases hg
     ·exact hm.ob φ (by rw [← hm.fe];exact h1) g (h2.trans hg)
    cases e with
    | normal=>exact fin hk
    | ret=>exact fin hk
    | _=>cases hk
end Go.Proofs.YtdbjakibneeeiaaGreatDoor.Sx
namespace Go.Proofs.YtdbjakibneeeiaaGreatDoor.Sx
open Go.RowKit
def eqv:T→Value→Bool
 | .v (.string a),.string b=>eqS a b
 | .v (.slice none 0 0),.slice none 0 0=>true
 | .v x,y=>eqW x y
 | _,_=>false
theorem eqv_of {t:T} {v:Value} (h:eqv t v=true):t=.v v:=by
 unfold eqv at h
 split at h
 ·rw [eqS_of h]
 ·rfl
 ·rw [eqW_of h]
 ·cases h
def eqvs:List T→List Value→Bool
 | [],[]=>true
 | t::l,v::r=>eqv t v&&eqvs l r
 | _,_=>false
theorem eqvs_of:∀{l:List T} {r:List Value},eqvs l r=true→l=r.map T.v
 | [],[],_=>rfl
 | t::l,v::r,h=>by
  simp only [eqvs,Bool.and_eq_true] at h
  rw [List.map_cons,← eqv_of h.1,← eqvs_of h.2]
 | [],_::_,h=>by cases h
 | _::_,[],h=>by cases h
def chkSy (E:Env):List (TypeId×Sh)→Bool
 | []=>true
 | (e,s)::l=>(match lk E.zero e with
  | some cs=>eqvs cs (zvals s)
  | none=>true)&&(match lk E.str e with
  | some (cs,_)=>eqvs cs (zvals s)
  | none=>true)&&chkSy E l
theorem chkSy_of {E:Env}:∀{l:List (TypeId×Sh)},chkSy E l=true→∀e s,lk l e=some s→(∀cs,lk E.zero e=some cs→cs=(zvals s).map T.v)∧∀cs places,lk E.str e=some (cs,places)→cs=(zvals s).map T.v
 | [],_,e,s,h=>by cases h
 | (e0,s0)::l,hc,e,s,h=>by
  simp only [chkSy,Bool.and_eq_true] at hc
  simp only [lk] at h
  cases hb:e0==e with
  | true=>
   rw [hb] at h
   have h:s0=s:=by simpa using h
   have hb:e0=e:=eq_of_beq hb
   subst h hb
   refine ⟨fun cs h1=>?_,fun cs pl h1=>?_⟩
   ·have:=hc.1.1;rw [h1] at this;exact eqvs_of this
   ·have:=hc.1.2;rw [h1] at this;exact eqvs_of this
  | false=>rw [hb] at h;exact chkSy_of hc.2 e s h
def chkF (P:Program) (H:FH) (f:FuncId):Bool:=match P.funcs[f]? with
 | none=>false
 | some fn=>match fn.body with
  | none=>false
  | some c=>callable P f&&schedOk H.sch c
section
variable {P : Program} {B : World → Prop} {D : EE} {E E' : Env}
theorem EE.base_ok (hE:E'.Ok P) (hz:E'.zero=E.zero) (ha:E'.agg=E.agg) (hs:E'.str=E.str) (hk:E'.keep=true) {sy:List (TypeId×Sh)} (hc:chkSy E sy=true) {fr:List (FuncId×EFr)} (hf:∀f S,(f,S)∈fr→callable P f=true∧S.toS.Ok P B f) {idc:List ((TypeId×TypeId)×Unit)} (hi:∀a b u,lk idc (a,b)=some u→∀v w,(convert a b v).run P w=.ok v w) (hmem:∀f S,lk fr f=some S→(f,S)∈fr) :
  (EE.toD ⟨sy,[],fr,idc⟩).Oks E P B E':=by
 refine ⟨⟨fun f S h=>?_,fun f S h=>?_,fun e s cs h1 h2=>(chkSy_of hc e s h1).1 cs h2,fun e s cs pl h1 h2=>(chkSy_of hc e s h1).2 cs pl h2,hi⟩,hz,ha,hs,hk,hE⟩
 ·cases h
 ·have h:lk (mapS EFr.toS fr) f=some S:=h
  rw [lk_mapS,Option.map_eq_some_iff] at h
  obtain ⟨S0,h1,rfl⟩:=h
  exact hf f S0 (hmem f S0 h1)
theorem EE.leaf_ok (hD:D.toD.Oks E P B E') {f:FuncId} {S:ESm} (hc:callable P f=true) (hS:S.toS.Ok P B f):(EE.toD { D with sm:=(f,S)::D.sm }).Oks E P B E':=by
 refine ⟨⟨fun g S' h=>?_,hD.ok.fr,hD.ok.zero,hD.ok.str,hD.ok.idc⟩,hD.zero,hD.agg,hD.str,hD.keep,hD.eok⟩
 have h:lk ((f,S.toS)::mapS ESm.toS D.sm) g=some S':=h
 simp only [lk] at h
 cases hb:f==g with
 | true=>
  rw [hb] at h
  have h:S.toS=S':=by simpa using h
  have hb:f=g:=eq_of_beq hb
  subst h hb
  exact ⟨hc,hS⟩
 | false=>rw [hb] at h;exact hD.ok.sm g S' h
theorem EE.withM {D:DE} {E E':Env} {P:Program} {B:World→Prop} (hD:D.Oks E P B E') (l:List TypeId):D.Oks E P B { E' with soonM:=l }:=
 ⟨hD.ok,hD.zero,hD.agg,hD.str,hD.keep,⟨hD.eok.zero,hD.eok.agg1,hD.eok.aggN,hD.eok.off,hD.eok.row,hD.eok.str,hD.eok.strs,hD.eok.ints,hD.eok.size,hD.eok.mixed,hD.eok.row1,hD.eok.meth,hD.eok.arr⟩⟩
theorem EE.outM {D:DE} {E E':Env} {P:Program} {B:World→Prop} (l:List TypeId) (hD:D.Oks E P B { E' with soonM:=l }):D.Oks E P B E':=
 ⟨hD.ok,hD.zero,hD.agg,hD.str,hD.keep,⟨hD.eok.zero,hD.eok.agg1,hD.eok.aggN,hD.eok.off,hD.eok.row,hD.eok.str,hD.eok.strs,hD.eok.ints,hD.eok.size,hD.eok.mixed,hD.eok.row1,hD.eok.meth,hD.eok.arr⟩⟩
theorem EE.add_ok (hD:D.toD.Oks E P B E') (hq:(!E'.quiet&&E'.opens.isEmpty && !E'.bare)=true) (hBB:∀w w',B w→Below w.heap.size w w'→B w') {f:FuncId} {H:FH} (hc:chkF P H f=true) {S:ESm} {ps rs:List Sh} (hS:S=⟨ps,rs,xfun P E' D H f ps rs⟩):(EE.toD { D with sm:=(f,S)::D.sm }).Oks E P B E':=by
 unfold chkF at hc
 split at hc
 ·cases hc
 ·rename_i fn hf
  split at hc
  ·cases hc
  ·rename_i c hb
   rw [Bool.and_eq_true] at hc
   simp only [Bool.and_eq_true,Bool.not_eq_true',List.isEmpty_iff] at hq
   subst hS
   exact EE.leaf_ok hD hc.1 (xfun_ok hD hq.1.1 hq.1.2 hq.2 hBB hf hb H hc.2)
end
def ones:List Nat→Ord→Ord
 | [],r=>r
 | i::l,r=>.one i (ones l r)
def EE.ad (t:EE) (f:FuncId) (s:ESm):EE:={ t with sm:=(f,s)::t.sm }
end Go.Proofs.YtdbjakibneeeiaaGreatDoor.Sx
