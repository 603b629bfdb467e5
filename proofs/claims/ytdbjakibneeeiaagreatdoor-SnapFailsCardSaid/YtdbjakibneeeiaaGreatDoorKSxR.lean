/- A walk by reckoning: regions, code, loops, calls. -/
import Derived.Test.YtdbjakibneeeiaaGreatDoorKSxS
set_option linter.all false
set_option maxHeartbeats 4000000
set_option maxRecDepth 100000
namespace Go.Proofs.YtdbjakibneeeiaaGreatDoor.Sx
open Go.RowKit
section
variable {P : Program} {W : World} {G : Option Nat} {Q : Ending → World → Prop} {E : Env} {ds : List Deferred}
def ak.known {β ρ t l} (h:ak β ρ t l) (d:Nat) {x:T} {y:Value} (hd:l[d]?=some y) (hx:Rel β ρ x y):ak β ρ (t.set d x) l:=by
 have:=h.set d hx
 have e:l.set d y=l:=by
  apply List.ext_getElem?
  intro i
  rw [List.getElem?_set]
  by_cases hi:d=i
  ·subst hi
   rw [if_pos rfl,if_pos (List.getElem?_eq_some_iff.1 hd).1,hd]
  ·rw [if_neg hi]
 rwa [e] at this
def vm {all:List Oper} {o:Oper} {i:Nat} {b:Bool} {j:Nat} {t:List T} {a:Act} {β ρ} {c:Bool} (hg:o.guard=some (i,b)) (hj:(all[i]?).bind (·.dst)=some j) (hr:ak β ρ t a.tmps.toList) (hc:get t j=.v (.bool c)) :
  Region.wanted o (yielded all.toArray a.tmps)=(c==b)∧a.tmps.toList[j]?=some (.bool c):=by
 have h:=hr.get j
 rw [hc] at h
 have h:a.tmps.toList.getD j undef=.bool c:=h
 have hlt:j<t.length:=by
  rcases Nat.lt_or_ge j t.length with hl | hl
  ·exact hl
  ·unfold Sx.get at hc
   rw [List.getD_eq_getElem?_getD,List.getElem?_eq_none hl] at hc
   cases hc
 have hget:a.tmps.toList[j]?=some (.bool c):=by
  rw [List.getD_eq_getElem?_getD] at h
  cases hq:a.tmps.toList[j]? with
  | none=>rw [List.getElem?_eq_none_iff,hr.1] at hq;omega
  | some y=>rw [hq] at h;rw [← h];rfl
 refine ⟨?_,hget⟩
 have hy:yielded all.toArray a.tmps i=some c:=by
  unfold yielded
  rw [List.getElem?_toArray,hj]
  have:a.tmps[j]?=some (.bool c):=by simpa using hget
  simp [this]
 unfold Region.wanted
 rw [hg]
 simp only [hy]
 cases c <;> cases b <;> rfl
def qG {all:List Oper} {o:Oper} {i:Nat} {b:Bool} {j:Nat} {t:List T} {a:Act} {β ρ} {c:Array Value} (hg:o.guard=some (i,b)) (hj:(all[i]?).bind (·.dst)=some j) (hr:ak β ρ t a.tmps.toList) (hc:get t j=.v (.tuple c)) :
  Region.wanted o (yielded all.toArray a.tmps)=false:=by
 have h:=hr.get j
 rw [hc] at h
 have h:a.tmps.toList.getD j undef=.tuple c:=h
 have hy:yielded all.toArray a.tmps i=none:=by
  unfold yielded
  rw [List.getElem?_toArray,hj]
  cases hq:a.tmps[j]? with
  | none=>simp [hq]
  | some y=>
   have:y=.tuple c:=by
    rw [List.getD_eq_getElem?_getD] at h
    have e:a.tmps.toList[j]?=some y:=by simpa using hq
    rw [e] at h
    exact h
   subst this
   simp [hq]
 unfold Region.wanted
 rw [hg]
 simp only [hy]
 rfl
def mE (hE:E.Ok P) (all:List Oper):∀(rest:List Oper) (m0 m:M) (t:List T) (k:M→List T→Tree) (Q':Exit→Act→World→Prop) (β ρ) (a:Act) (w:World),
  (∀m' t',(k m' t').aD P W G Q ds→∀β ρ a w,Mem W G m' β ρ w→ak β ρ t' a.tmps.toList→a.defers=ds→Q' .normal a w)→
  Mem W G m β ρ w→ak β ρ t a.tmps.toList→a.defers=ds→(ops E none all rest m0 m t k).aD P W G Q ds→wpList P all.toArray Q' rest a w
 | [],m0,m,t,k,Q',β,ρ,a,w,hk,hm,hr,hd,h=>hk m t h β ρ a w hm hr hd
 | o::rest,m0,m,t,k,Q',β,ρ,a,w,hk,hm,hr,hd,h=>by
  have one:∀(t:List T),ak β ρ t a.tmps.toList→Region.wanted o (yielded all.toArray a.tmps)=true→(step E o (mA none m0 m) m t (fun m' t' x=>ops E none all rest m0 m' (put t' o.dst x) k)).aD P W G Q ds→wpList P all.toArray Q' (o::rest) a w:=by
   intro t hr hwant h
   unfold wpList
   rw [if_pos hwant]
   refine .inl (nM hE ⟨[],by simp⟩ ⟨[],by simp⟩ hm.bl hm hm hr h fun m' t' x β' ρ' w' y h hm' hr' hx _=>?_)
   exact mE hE all rest m0 m' _ k Q' β' ρ' _ w' hk hm' (hr'.put _ hx) (by rw [put_defers];exact hd) h
  unfold ops at h
  simp only [fA,cond_true,eU,bO,ki] at h
  cases hg:o.guard with
  | none=>
   rw [hg] at h
   exact one t hr (by simp [Region.wanted,hg]) h
  | some q=>
   obtain ⟨i,b⟩:=q
   rw [hg] at h
   simp only [] at h
   cases hj:(all[i]?).bind (·.dst) with
   | none=>rw [hj] at h;exact h.elim
   | some j=>
    rw [hj] at h
    simp only [] at h
    cases hc:get t j with
    | v u=>
     rw [hc] at h
     cases u with
     | bool c=>
      obtain ⟨hw,hy⟩:=vm hg hj hr hc
      rcases C6 h with ⟨hcb,h2⟩ | ⟨hcb,h2⟩
      ·rw [hcb] at hw
       have:c=b:=by simpa using hcb
       subst this
       (have h:=h2;exact one _ (hr.known j hy (show Rel β ρ (.v (.bool _)) (.bool _) from rfl)) hw h)
      ·rw [hcb] at hw
       have:c = !b:=by cases c <;> cases b <;> simp_all
       subst this
       unfold wpList
       rw [hw]
       exact mE hE all rest m0 m _ k Q' β ρ _ w hk hm ((hr.known j hy (show Rel β ρ (.v (.bool _)) (.bool _) from rfl)).put _ (show Rel β ρ (.v undef) undef from rfl)) (by rw [put_defers];exact hd) h2
     | tuple c=>
      have hw:=qG hg hj hr hc
      unfold wpList
      rw [hw]
      exact mE hE all rest m0 m _ k Q' β ρ _ w hk hm (hr.put _ (show Rel β ρ (.v undef) undef from rfl)) (by rw [put_defers];exact hd) h
     | _=>exact h.elim
    | _=>rw [hc] at h;exact h.elim
def dr (os:Array Oper):Array Bool→Ord→Bool
 | listed,.done=>(Region.ready .any os listed).isEmpty
 | listed,.one i r=>(match os[i]? with
   | some o=>(bif takes true o then Region.free .any os listed i&&(Region.ready .any os listed).contains i else (Region.ready .any os listed==[i]) && !isApp o)
   | none=>false)&&dr os (listed.setIfInBounds i true) r
 | listed,.fork i r j s=>(Region.ready .any os listed==[i,j])&&(match os[i]?,os[j]? with
   | some o,some p=>!takes true o && !isApp o && !takes true p && !isApp p
   | _,_=>false)&&dr os (listed.setIfInBounds i true) r&&dr os (listed.setIfInBounds j true) s
 | listed,.fork3 i r j s l u=>(Region.ready .any os listed==[i,j,l])&&((match os[i]?,os[j]? with
   | some o,some p=>!takes true o && !isApp o && !takes true p && !isApp p
   | _,_=>false)&&(match os[l]? with
   | some o=>!takes true o && !isApp o
   | _=>false))&&dr os (listed.setIfInBounds i true) r&&dr os (listed.setIfInBounds j true) s&&dr os (listed.setIfInBounds l true) u
 | _,.last _ _=>false
 | listed,.now i r=>(match os[i]? with
   | some o=>takes true o&&(Region.free .any os listed i&&(Region.ready .any os listed==[i]))
   | none=>false)&&dr os (listed.setIfInBounds i true) r
def Ord.len:Ord→Nat
 | .done=>0
 | .one _ r=>r.len+1
 | .fork _ r _ s=>max r.len s.len+1
 | .fork3 _ r _ s _ u=>max r.len (max s.len u.len)+1
 | .last _ r=>r.len+1
 | .now _ r=>r.len+1
def Mem.hid {m:M} {β ρ} {w w':World} {b g:Nat} (h:Mem W G m β ρ w) (hb:(m.own[b]?).join=none) (hg:β[b]?=some g) (hf:∀φ∈m.facts,φ.g≠some g) (k:w.grownBy w' (some g)):Mem W G m β ρ w' where
 grown:=gZ h.grown k (.inl (h.lo g (List.mem_of_getElem? hg)).1)
 nd:=h.nd
 bl:=h.bl
 lo g hg:=⟨(h.lo g hg).1,Nat.lt_of_lt_of_le (h.lo g hg).2 k.size⟩
 own b2 cs ty hb2:=by
  obtain ⟨g2,l,hg2,hw,hr⟩:=h.own b2 cs ty hb2
  refine ⟨g2,l,hg2,(k.block g2 (h.lo g2 (List.mem_of_getElem? hg2)).2 ?_).trans hw,hr⟩
  rintro e
  cases e
  have:b=b2:=by
   obtain ⟨h1,h2⟩:=List.getElem?_eq_some_iff.1 hg
   obtain ⟨h3,h4⟩:=List.getElem?_eq_some_iff.1 hg2
   exact (List.getElem_inj h.nd).1 (h2.trans h4.symm)
  subst this
  rw [hb2] at hb
  cases hb
 rl:=h.rl
 row i r hi:=by
  obtain ⟨v,hv,ho⟩:=h.row i r hi
  refine ⟨v,hv,ho.kept k ?_⟩
  cases hob:v.ownBlock with
  | none=>exact .inl rfl
  | some g2=>exact .inr (fun e=>(h.rb v (List.mem_of_getElem? hv) g2 hob).1 (by cases e;exact List.mem_of_getElem? hg))
 rb v hv g2 hg2:=⟨(h.rb v hv g2 hg2).1,(h.rb v hv g2 hg2).2.1,Nat.lt_of_lt_of_le (h.rb v hv g2 hg2).2.2 k.size⟩
 rows:=h.rows
 fact φ hφ g2 hg2:=by
  obtain ⟨h1,o,ho,hp⟩:=h.fact φ hφ g2 hg2
  exact ⟨h1,o,(k.block g2 (Array.getElem?_eq_some_iff.1 ho).1 (fun e=>by cases e;exact hf φ hφ hg2)).trans ho,hp⟩
def Mem.LM {m:M} {β ρ} {w w':World} (h:Mem W G m β ρ w) {g:Nat} (hA:lB m β ρ g) (hf:∀ψ∈m.facts,ψ.g≠some g) (hW:W.heap.size≤g∨some g=G) (k:w.grownBy w' (some g)):Mem W G m β ρ w' where
 grown:=gZ h.grown k hW
 nd:=h.nd
 bl:=h.bl
 lo g hg:=⟨(h.lo g hg).1,Nat.lt_of_lt_of_le (h.lo g hg).2 k.size⟩
 own b2 cs ty hb2:=by
  obtain ⟨g2,l,hg2,hw,hr⟩:=h.own b2 cs ty hb2
  refine ⟨g2,l,hg2,(k.block g2 (h.lo g2 (List.mem_of_getElem? hg2)).2 ?_).trans hw,hr⟩
  rintro e
  cases e
  have:=hA.1 b2 hg2
  rw [hb2] at this
  cases this
 rl:=h.rl
 row i r hi:=by
  obtain ⟨v,hv,ho⟩:=h.row i r hi
  refine ⟨v,hv,ho.kept k ?_⟩
  cases hob:v.ownBlock with
  | none=>exact .inl rfl
  | some g2=>
   refine .inr (fun e=>?_)
   cases e
   have:=hA.2 i v hv hob
   rw [hi] at this
   cases this
 rb v hv g2 hg2:=⟨(h.rb v hv g2 hg2).1,(h.rb v hv g2 hg2).2.1,Nat.lt_of_lt_of_le (h.rb v hv g2 hg2).2.2 k.size⟩
 rows:=h.rows
 fact φ hφ g2 hg2:=by
  obtain ⟨h1,o,ho,hp⟩:=h.fact φ hφ g2 hg2
  exact ⟨h1,o,(k.block g2 (Array.getElem?_eq_some_iff.1 ho).1 (fun e=>hf φ hφ (hg2.trans e))).trans ho,hp⟩
def Mem.JW {m:M} {β ρ} {w w':World} {g:Nat} (h:Mem W G m β ρ w) (hlo:W.heap.size≤g) (hg:g∉β) (hr:∀v∈ρ,v.ownBlock≠some g) (hf:∀φ∈m.facts,φ.g≠some g) (k:w.grownBy w' (some g)):Mem W G m β ρ w' where
 grown:=gZ h.grown k (.inl hlo)
 nd:=h.nd
 bl:=h.bl
 lo g hg:=⟨(h.lo g hg).1,Nat.lt_of_lt_of_le (h.lo g hg).2 k.size⟩
 own b2 cs ty hb2:=by
  obtain ⟨g2,l,hg2,hw,hr⟩:=h.own b2 cs ty hb2
  refine ⟨g2,l,hg2,(k.block g2 (h.lo g2 (List.mem_of_getElem? hg2)).2 ?_).trans hw,hr⟩
  rintro e
  cases e
  exact hg (List.mem_of_getElem? hg2)
 rl:=h.rl
 row i r hi:=by
  obtain ⟨v,hv,ho⟩:=h.row i r hi
  refine ⟨v,hv,ho.kept k ?_⟩
  cases hob:v.ownBlock with
  | none=>exact .inl rfl
  | some g2=>exact .inr (fun e=>hr v (List.mem_of_getElem? hv) (hob.trans e))
 rb v hv g2 hg2:=⟨(h.rb v hv g2 hg2).1,(h.rb v hv g2 hg2).2.1,Nat.lt_of_lt_of_le (h.rb v hv g2 hg2).2.2 k.size⟩
 rows:=h.rows
 fact φ hφ g2 hg2:=by
  obtain ⟨h1,o,ho,hp⟩:=h.fact φ hφ g2 hg2
  exact ⟨h1,o,(k.block g2 (Array.getElem?_eq_some_iff.1 ho).1 (fun e=>by cases e;exact hf φ hφ hg2)).trans ho,hp⟩
def uW:∀(X:List Nat) (m:M),(m.jF X).rows=m.rows∧(m.jF X).facts=m.facts∧(m.jF X).own.length=m.own.length∧(∀b∈X,((m.jF X).own[b]?).join=none)∧(∀(b:Nat) x,(m.jF X).own[b]?=some (some x)→m.own[b]?=some (some x))
 | [],m=>⟨rfl,rfl,rfl,by simp,fun _ _ h=>h⟩
 | b::X,m=>by
  obtain ⟨h1,h2,h3,h4,h5⟩:=uW X { m with own:=m.own.set b none }
  refine ⟨h1,h2,by rw [M.jF,h3];simp,fun c hc=>?_,fun c x hx=>sr (h5 c x hx)⟩
  rcases List.mem_cons.1 hc with rfl | hc
  ·cases hq:((M.jF m (c::X)).own[c]?).join with
   | none=>rfl
   | some x=>
    have:=h5 c x (join_eq hq)
    rw [List.getElem?_set,if_pos rfl] at this
    split at this <;> cases this
  ·exact h4 c hc
def tG:∀(X:List Nat) (m:M),alive m X=true→∀b∈X,∃q,m.own[b]?=some (some q)
 | [],m,_,b,h=>by cases h
 | c::X,m,ha,b,h=>by
  simp only [alive,Bool.and_eq_true] at ha
  rcases List.mem_cons.1 h with rfl | h
  ·obtain ⟨q,hq⟩:=Option.isSome_iff_exists.1 ha.1
   exact ⟨q,join_eq hq⟩
  ·exact tG X m ha.2 b h
def qZ {E:Env} {o:Oper} {t:List T} (h:takes true o=true):opens E t o=false:=by
 obtain ⟨dst,op,ty',pos,after,guard⟩:=o
 cases op with
 | call c=>
  obtain ⟨callee,args,tys⟩:=c
  cases callee with
  | builtin b=>cases b <;> first | rfl | cases h
  | _=>cases h
 | store _ _ _=>cases h
 | _=>first | rfl | cases h
def AO {E:Env} (hq:E.quiet=true) {o:Oper} (ht:takes true o=true) {m0 m:M} {t:List T} {k:M→List T→T→Tree}:step E o m0 m t k=step0 E o m0 m t k:=by
 have hh:qL o t=none:=by
  obtain ⟨dst,op,ty',pos,after,guard⟩:=o
  cases op <;> first | rfl | cases ht
 have hb:qN E o=false:=by
  obtain ⟨dst,op,ty',pos,after,guard⟩:=o
  cases op <;> first | (simp [qN,Ho,mJ];done) | cases ht
 unfold step
 rw [hq,qZ ht]
 simp [hh,hb]
def fD (hE:E.Ok P) (hqt:E.quiet=true) (os:Array Oper) (hs:Region.noSelect os=true) (X:List Nat) {m0:M} {β0:List Nat} {ρ0:List Value} (hX:∀b∈X,(m0.own[b]?).join=none) (hF:∀φ∈m0.facts,∀b∈X,∀g,β0[b]?=some g→φ.g≠some g) (hXl:∀b∈X,b<β0.length) (hbl:β0.length=m0.own.length) (N0:Nat) (hN:∀φ∈m0.facts,∀g,φ.g=some g→g<N0) (hB:E.bare=true→∀φ∈m0.facts,∀ψ∈E.base,∀g,ψ.g=some g→φ.g≠some g) (hT:E.bare=true→∀φ∈E.base,∀g,φ.g=some g→lB m0 β0 ρ0 g)
  (A:Nat→Array Bool→Act→World→Prop) (ok:Prop) (i:Nat) (fuel:Nat) (listed:Array Bool) (m:M) (t:List T) (k:M→List T→Tree) (Q':Exit→Act→World→Prop) (β ρ) (a:Act) (w:World) (o:Oper) (hi:os[i]?=some o)
  (hA:∀{v:Value} {a:Act} {w:World},ok→Region.free .any os listed i=true→(Region.ready .any os listed).contains i=true→YieldsIf P os (fun w'=>reads o=true→Mem W G m0 β0 ρ0 w') o v a→Mem W G m0 β0 ρ0 w→A fuel (listed.setIfInBounds i true) (a.put o.dst v) w→A (fuel+1) listed a w)
  (next:∀m' t' β' ρ' a' w',(k m' t').aD P W G Q ds→((∃β1,β'=β0++β1∧∀g∈β1,N0≤g)∧∃ρ1,ρ'=ρ0++ρ1)→N0≤w'.heap.size→Mem W G m0 β0 ρ0 w'→Mem W G m' β' ρ' w'→ak β' ρ' t' a'.tmps.toList→a'.defers=ds→A fuel (listed.setIfInBounds i true) a' w')
  (hβ:(∃β1,β=β0++β1∧∀g∈β1,N0≤g)∧∃ρ1,ρ=ρ0++ρ1) (hsz:N0≤w.heap.size) (hm0:Mem W G m0 β0 ρ0 w) (hm:Mem W G m β ρ w) (hr:ak β ρ t a.tmps.toList) (hd:a.defers=ds)
  (h:(ops E (some X) os.toList (bh os.toList [i]) m0 m t k).aD P W G Q ds) :
  (ok→takes true o=true→Region.free .any os listed i=true→(Region.ready .any os listed).contains i=true→A (fuel+1) listed a w)∧
  (takes true o=false→isApp o=false→wpOp P os Q' i (fun a' w'=>Mem W G m0 β0 ρ0 w'∧A fuel (listed.setIfInBounds i true) a' w') a w):=by
 have hp:bh os.toList [i]=[o]:=by
  have:nth os.toList i=some o:=by rw [eU];simpa using hi
  simp only [bh,this]
 rw [hp] at h
 have skip:∀(t':List T),ak β ρ t' a.tmps.toList→Region.wanted o (yielded os a.tmps)=false→(k m (put t' o.dst (.v undef))).aD P W G Q ds→_:=fun t' hr' hw h=>by
  have nx:=next m _ β ρ (a.put o.dst undef) w h hβ hsz hm0 hm (hr'.put o.dst (show Rel β ρ (.v undef) undef from rfl)) (by rw [put_defers];exact hd)
  exact And.intro (fun (hok:ok) (ht:takes true o=true) (h1:Region.free .any os listed i=true) (h2:(Region.ready .any os listed).contains i=true)=>hA hok h1 h2 (.inr ⟨hw,rfl⟩) hm0 nx)
   (fun (ht:takes true o=false) (hap:isApp o=false)=>show wpOp P os Q' i (fun a' w'=>Mem W G m0 β0 ρ0 w'∧A fuel (listed.setIfInBounds i true) a' w') a w by
    unfold wpOp
    rw [hi]
    simp only [hw]
    exact ⟨hm0,nx⟩)
 have one:∀(t':List T),ak β ρ t' a.tmps.toList→fA (some X) m0.own.length o t=true→Region.wanted o (yielded os a.tmps)=true→(step E o m0 m t' (fun m' t' x=>k m' (put t' o.dst x))).aD P W G Q ds→_:=fun t' hr' hst hw h=>And.intro
  (fun (hok:ok) (ht:takes true o=true) (hf:Region.free .any os listed i=true) (hrd:(Region.ready .any os listed).contains i=true)=>show A (fuel+1) listed a w by
   obtain ⟨x,y,h1,h2,h3⟩:=step_take hE (by rw [hqt];exact ht) (hβ.1.imp fun _ h=>h.1) hβ.2 hm0.bl hm0 hm hr' (AO hqt ht▸h)
   refine hA (v:=y) hok hf hrd (.inl ⟨hw,h3⟩) hm0 ?_
   exact next m _ β ρ _ w h1 hβ hsz hm0 hm (hr'.put o.dst h2) (by rw [put_defers];exact hd))
  (fun (ht:takes true o=false) (hap:isApp o=false)=>show wpOp P os Q' i (fun a' w'=>Mem W G m0 β0 ρ0 w'∧A fuel (listed.setIfInBounds i true) a' w') a w by
   unfold wpOp
   rw [hi]
   simp only [hw,if_true]
   refine .inl (nM hE (hβ.1.imp fun _ h=>h.1) hβ.2 hm0.bl hm0 hm hr' h fun m' t2 x β' ρ' w' y h hm' hr2 hx hmv=>?_)
   rcases hmv with (hmv | hmv) | ⟨⟨ρ2,hρ2⟩,⟨β2,hβ2,hβ3⟩,hmv⟩
   ·rw [hap] at hmv;cases hmv
   ·rw [hqt] at hmv;cases hmv
   ·have hS:Mem W G m0 β0 ρ0 w':=by
     rcases hmv with hmv | ⟨ty,x1,y1,g,off,hop,hev,hgr⟩ | ⟨hbr,φ,hφ,g,hg,hW,hgr⟩
     ·exact hm0.grow hmv
     rotate_left
     ·exact hm0.LM (hT hbr φ hφ g hg) (fun ψ hψ=>hB hbr ψ hψ φ hφ g hg) hW hgr
     ·simp only [fA,hop] at hst
      have hx1:=hr.ev x1
      cases e1:ev t x1 with
      | p b off'=>
       rw [e1] at hst hx1
       obtain ⟨g',hg',hp'⟩:=hx1
       rw [hev] at hp'
       cases hp'
       obtain ⟨⟨β1,rfl,hβ1⟩,ρ1,rfl⟩:=hβ
       by_cases hbX:b∈X
       ·have hb0:β0[b]?=some g:=by
         rwa [List.getElem?_append_left (hXl b hbX)] at hg'
        exact hm0.hid (hX b hbX) hb0 (fun φ hφ=>hF φ hφ b hbX g hb0) hgr
       ·have hnb:m0.own.length≤b:=by simpa [hbX] using hst
        rw [List.getElem?_append_right (by omega)] at hg'
        have hg1:=List.mem_of_getElem? hg'
        have hnd:=hm.nd
        rw [List.nodup_append] at hnd
        have hnot:g∉β0:=fun h0=>hnd.2.2 g h0 g hg1 rfl
        refine hm0.JW (hm.lo g (List.mem_append_right _ hg1)).1 hnot (fun v hv e=>(hm.rb v (List.mem_append_left _ hv) g e).1 (List.mem_append_right _ hg1)) (fun φ hφ e=>?_) hgr
        have:=hN φ hφ g e
        have:=hβ1 g hg1
        omega
      | _=>rw [e1] at hst;cases hst
    refine ⟨hS,?_⟩
    have hsz':w.heap.size≤w'.heap.size:=by
     rcases hmv with hmv | ⟨ty,x1,y1,g,off,hop,hev,hgr⟩ | ⟨hbr,φ,hφ,g,hg,hW,hgr⟩
     ·exact hmv.size
     ·exact hgr.size
     ·exact hgr.size
    obtain ⟨⟨β1,rfl,hβ1⟩,ρ1,rfl⟩:=hβ
    refine next m' _ β' ρ' _ w' h ⟨⟨β1++β2,by rw [hβ2,List.append_assoc],fun g hg=>?_⟩,ρ1++ρ2,by rw [hρ2,List.append_assoc]⟩ (Nat.le_trans hsz hsz') hS hm' (hr2.put o.dst hx) (by rw [put_defers];exact hd)
    rcases List.mem_append.1 hg with hg | hg
    ·exact hβ1 g hg
    ·exact Nat.le_trans hsz (hβ3 g hg))
 simp only [ops,eU,mA,bO,ki] at h
 cases hg:o.guard with
 | none=>
  rw [hg] at h
  simp only [] at h
  cases hst:fA (some X) m0.own.length o t with
  | false=>rw [hst] at h;exact h.elim
  | true=>rw [hst] at h;exact one t hr hst (by simp [Region.wanted,hg]) h
 | some q=>
  obtain ⟨j,b⟩:=q
  rw [hg] at h
  simp only [] at h
  cases hj:(os.toList[j]?).bind (·.dst) with
  | none=>rw [hj] at h;exact h.elim
  | some d=>
   rw [hj] at h
   simp only [] at h
   cases hc:get t d with
   | v u=>
    rw [hc] at h
    cases u with
    | bool c=>
     obtain ⟨hw,hy⟩:=vm hg hj hr hc
     rw [show os.toList.toArray=os from by simp] at hw
     rcases C6 h with ⟨hcb,h2⟩ | ⟨hcb,h2⟩
     ·rw [hcb] at hw
      have:c=b:=by simpa using hcb
      subst this
      clear h
      cases hst:fA (some X) m0.own.length o t with
      | false=>rw [hst] at h2;exact h2.elim
      | true=>rw [hst] at h2;exact one _ (hr.known d hy (show Rel β ρ (.v (.bool _)) (.bool _) from rfl)) hst hw h2
     ·rw [hcb] at hw
      have:c = !b:=by cases c <;> cases b <;> simp_all
      subst this
      exact skip _ (hr.known d hy (show Rel β ρ (.v (.bool _)) (.bool _) from rfl)) hw h2
    | tuple c=>
     have hw:=qG hg hj hr hc
     rw [show os.toList.toArray=os from by simp] at hw
     exact skip _ hr hw h
    | _=>exact h.elim
   | _=>rw [hc] at h;exact h.elim
def dW (hE:E.Ok P) (hqt:E.quiet=true) (os:Array Oper) (hs:Region.noSelect os=true) (X:List Nat) {m0:M} {β0:List Nat} {ρ0:List Value} (hX:∀b∈X,(m0.own[b]?).join=none) (hF:∀φ∈m0.facts,∀b∈X,∀g,β0[b]?=some g→φ.g≠some g) (hXl:∀b∈X,b<β0.length) (hbl:β0.length=m0.own.length) (N0:Nat) (hN:∀φ∈m0.facts,∀g,φ.g=some g→g<N0) (hB:E.bare=true→∀φ∈m0.facts,∀ψ∈E.base,∀g,ψ.g=some g→φ.g≠some g) (hT:E.bare=true→∀φ∈E.base,∀g,φ.g=some g→lB m0 β0 ρ0 g) :
  ∀(l:Ord) (fuel:Nat) (listed:Array Bool) (m:M) (t:List T) (k:M→List T→Tree) (Q':Exit→Act→World→Prop) (β ρ) (a:Act) (w:World),
  (∀c a w,Q' (.panic c) a w↔False)→
  (∀m' t',(k m' t').aD P W G Q ds→∀β ρ a w,Mem W G m' β ρ w→ak β ρ t' a.tmps.toList→a.defers=ds→Q' .normal a w)→
  l.len≤fuel→dr os listed l=true→((∃β1,β=β0++β1∧∀g∈β1,N0≤g)∧∃ρ1,ρ=ρ0++ρ1)→N0≤w.heap.size→Mem W G m0 β0 ρ0 w→
  Mem W G m β ρ w→ak β ρ t a.tmps.toList→a.defers=ds→(ku E (some X) os.toList l m0 m t k).aD P W G Q ds→wpAnyH P .any os Q' (fun w'=>Mem W G m0 β0 ρ0 w') fuel listed a w
 | .done,fuel,listed,m,t,k,Q',β,ρ,a,w,hq,hk,hl,hv,hβ,hsz,hm0,hm,hr,hd,h=>by
  simp only [dr,List.isEmpty_iff] at hv
  exact wpAnyH_done hv (hk m t h β ρ a w hm hr hd) fuel
 | .last i r,fuel,listed,m,t,k,Q',β,ρ,a,w,hq,hk,hl,hv,hβ,hsz,hm0,hm,hr,hd,h=>by cases hv
 | .one i r,0,listed,m,t,k,Q',β,ρ,a,w,hq,hk,hl,hv,hβ,hsz,hm0,hm,hr,hd,h=>by simp [Ord.len] at hl
 | .fork i r j s,0,listed,m,t,k,Q',β,ρ,a,w,hq,hk,hl,hv,hβ,hsz,hm0,hm,hr,hd,h=>by simp [Ord.len] at hl
 | .fork3 i r j s l u,0,listed,m,t,k,Q',β,ρ,a,w,hq,hk,hl,hv,hβ,hsz,hm0,hm,hr,hd,h=>by simp [Ord.len] at hl
 | .now i r,0,listed,m,t,k,Q',β,ρ,a,w,hq,hk,hl,hv,hβ,hsz,hm0,hm,hr,hd,h=>by simp [Ord.len] at hl
 | .now i r,fuel+1,listed,m,t,k,Q',β,ρ,a,w,hq,hk,hl,hv,hβ,hsz,hm0,hm,hr,hd,h=>by
  simp only [dr,Bool.and_eq_true] at hv
  obtain ⟨hv1,hv2⟩:=hv
  simp only [ku] at h
  cases hbr:E.bare with
  | true=>rw [hbr] at h;exact h.elim
  | false=>
  rw [hbr] at h
  simp only [] at h
  cases hi:os[i]? with
  | none=>rw [hi] at hv1;cases hv1
  | some o=>
   rw [hi] at hv1
   simp only [Bool.and_eq_true,beq_iff_eq] at hv1
   obtain ⟨ht,hfree,hrd⟩:=hv1
   have hlen:r.len≤fuel:=by simpa [Ord.len] using hl
   have A:=fD hE hqt os hs [] (m0:=m) (β0:=β) (ρ0:=ρ) (fun b hb=>by cases hb) (fun φ _ b hb=>by cases hb) (fun b hb=>by cases hb) hm.bl w.heap.size (fun φ hφ g hg=>by
    obtain ⟨_,o,ho,_⟩:=hm.fact φ hφ g hg
    exact (Array.getElem?_eq_some_iff.1 ho).1) (fun hb=>by rw [hbr] at hb;cases hb) (fun hb=>by rw [hbr] at hb;cases hb)
    (fun f l a' w'=>w'=w→wpAnyH P .any os Q' (fun w'=>Mem W G m0 β0 ρ0 w') f l a' w') True i fuel listed m t _ Q' β ρ a w o hi
    (fun {v a1 w1} _ _ _ hy hmm hAA hw1=>by
     refine wpAnyH_all hrd (by simp) fun j hj=>?_
     obtain rfl:j=i:=by simpa using hj
     exact hy.wpOp hi (fun _=>hmm) ⟨hw1▸hm0,hAA hw1⟩)
    (fun m' t' β' ρ' a' w' h hβ' hsz' hmm hm' hr' hd' hw'=>by
     subst hw'
     obtain ⟨⟨β1,hb1,hb2⟩,ρ1,hr1⟩:=hβ
     obtain ⟨⟨β2,hb3,hb4⟩,ρ2,hr2⟩:=hβ'
     exact dW hE hqt os hs X hX hF hXl hbl N0 hN hB hT r fuel _ m' t' k Q' β' ρ' a' w' hq hk hlen hv2 ⟨⟨β1++β2,by rw [hb3,hb1,List.append_assoc],fun g hg=>(List.mem_append.1 hg).elim (hb2 g) fun hg=>Nat.le_trans hsz (hb4 g hg)⟩,ρ1++ρ2,by rw [hr2,hr1,List.append_assoc]⟩ hsz hm0 hm' hr' hd' h)
    ⟨⟨[],by simp,by simp⟩,[],by simp⟩ (Nat.le_refl _) hm hm hr hd h
   exact A.1 trivial ht hfree (by rw [hrd];simp) rfl
 | .one i r,fuel+1,listed,m,t,k,Q',β,ρ,a,w,hq,hk,hl,hv,hβ,hsz,hm0,hm,hr,hd,h=>by
  simp only [dr,Bool.and_eq_true] at hv
  obtain ⟨hv1,hv2⟩:=hv
  cases hi:os[i]? with
  | none=>rw [hi] at hv1;cases hv1
  | some o=>
   rw [hi] at hv1
   simp only [] at hv1
   have hlen:r.len≤fuel:=by simpa [Ord.len] using hl
   have A:=fD hE hqt os hs X hX hF hXl hbl N0 hN hB hT (wpAnyH P .any os Q' (fun w'=>Mem W G m0 β0 ρ0 w')) True i fuel listed m t _ Q' β ρ a w o hi (fun _ h1 h2 hy hm0 h=>wpAnyH_take hi hs h1 h2 (fun c a w hp=>((hq _ _ _).1 hp).elim) (hy.imp (fun q=>⟨q.1,fun w hS=>q.2 w fun _=>hS⟩) id) hm0 h) (fun m' t' β' ρ' a' w' h hβ hsz hm0 hm hr hd=>dW hE hqt os hs X hX hF hXl hbl N0 hN hB hT r fuel _ m' t' k Q' β' ρ' a' w' hq hk hlen hv2 hβ hsz hm0 hm hr hd h) hβ hsz hm0 hm hr hd h
   cases ht:takes true o with
   | true=>
    rw [ht] at hv1
    simp only [cond_true,Bool.and_eq_true] at hv1
    exact A.1 trivial ht hv1.1 hv1.2
   | false=>
    rw [ht] at hv1
    simp only [cond_false,Bool.and_eq_true,beq_iff_eq,Bool.not_eq_true'] at hv1
    refine wpAnyH_all hv1.1 (by simp) fun j hj=>?_
    obtain rfl:j=i:=by simpa using hj
    exact A.2 ht hv1.2
 | .fork i r j s,fuel+1,listed,m,t,k,Q',β,ρ,a,w,hq,hk,hl,hv,hβ,hsz,hm0,hm,hr,hd,h=>by
  simp only [dr,Bool.and_eq_true,beq_iff_eq] at hv
  obtain ⟨⟨⟨hrd,hv1⟩,hv2⟩,hv3⟩:=hv
  cases hi:os[i]? with
  | none=>rw [hi] at hv1;cases hv1
  | some o=>
  cases hj:os[j]? with
  | none=>rw [hi,hj] at hv1;cases hv1
  | some p=>
   rw [hi,hj] at hv1
   simp only [Bool.and_eq_true,Bool.not_eq_true'] at hv1
   have hl1:r.len≤fuel:=by simp only [Ord.len] at hl;omega
   have hl2:s.len≤fuel:=by simp only [Ord.len] at hl;omega
   have A:=fD hE hqt os hs X hX hF hXl hbl N0 hN hB hT (wpAnyH P .any os Q' (fun w'=>Mem W G m0 β0 ρ0 w')) True i fuel listed m t _ Q' β ρ a w o hi (fun _ h1 h2 hy hm0 h=>wpAnyH_take hi hs h1 h2 (fun c a w hp=>((hq _ _ _).1 hp).elim) (hy.imp (fun q=>⟨q.1,fun w hS=>q.2 w fun _=>hS⟩) id) hm0 h) (fun m' t' β' ρ' a' w' h hβ hsz hm0 hm hr hd=>dW hE hqt os hs X hX hF hXl hbl N0 hN hB hT r fuel _ m' t' k Q' β' ρ' a' w' hq hk hl1 hv2 hβ hsz hm0 hm hr hd h) hβ hsz hm0 hm hr hd h.1
   have B:=fD hE hqt os hs X hX hF hXl hbl N0 hN hB hT (wpAnyH P .any os Q' (fun w'=>Mem W G m0 β0 ρ0 w')) True j fuel listed m t _ Q' β ρ a w p hj (fun _ h1 h2 hy hm0 h=>wpAnyH_take hj hs h1 h2 (fun c a w hp=>((hq _ _ _).1 hp).elim) (hy.imp (fun q=>⟨q.1,fun w hS=>q.2 w fun _=>hS⟩) id) hm0 h) (fun m' t' β' ρ' a' w' h hβ hsz hm0 hm hr hd=>dW hE hqt os hs X hX hF hXl hbl N0 hN hB hT s fuel _ m' t' k Q' β' ρ' a' w' hq hk hl2 hv3 hβ hsz hm0 hm hr hd h) hβ hsz hm0 hm hr hd h.2
   refine wpAnyH_all hrd (by simp) fun x hx=>?_
   rcases (by simpa using hx:x=i∨x=j) with rfl | rfl
   ·exact A.2 hv1.1.1.1 hv1.1.1.2
   ·exact B.2 hv1.1.2 hv1.2
 | .fork3 i r j s n u,fuel+1,listed,m,t,k,Q',β,ρ,a,w,hq,hk,hl,hv,hβ,hsz,hm0,hm,hr,hd,h=>by
  simp only [dr,Bool.and_eq_true,beq_iff_eq] at hv
  obtain ⟨⟨⟨⟨hrd,hv1,hv0⟩,hv2⟩,hv3⟩,hv4⟩:=hv
  cases hi:os[i]? with
  | none=>rw [hi] at hv1;cases hv1
  | some o=>
  cases hj:os[j]? with
  | none=>rw [hi,hj] at hv1;cases hv1
  | some p=>
  cases hn:os[n]? with
  | none=>rw [hn] at hv0;cases hv0
  | some q'=>
   rw [hi,hj] at hv1
   rw [hn] at hv0
   simp only [Bool.and_eq_true,Bool.not_eq_true'] at hv1 hv0
   have hl1:r.len≤fuel:=by simp only [Ord.len] at hl;omega
   have hl2:s.len≤fuel:=by simp only [Ord.len] at hl;omega
   have hl3:u.len≤fuel:=by simp only [Ord.len] at hl;omega
   have A:=fD hE hqt os hs X hX hF hXl hbl N0 hN hB hT (wpAnyH P .any os Q' (fun w'=>Mem W G m0 β0 ρ0 w')) True i fuel listed m t _ Q' β ρ a w o hi (fun _ h1 h2 hy hm0 h=>wpAnyH_take hi hs h1 h2 (fun c a w hp=>((hq _ _ _).1 hp).elim) (hy.imp (fun q=>⟨q.1,fun w hS=>q.2 w fun _=>hS⟩) id) hm0 h) (fun m' t' β' ρ' a' w' h hβ hsz hm0 hm hr hd=>dW hE hqt os hs X hX hF hXl hbl N0 hN hB hT r fuel _ m' t' k Q' β' ρ' a' w' hq hk hl1 hv2 hβ hsz hm0 hm hr hd h) hβ hsz hm0 hm hr hd h.1
   have B:=fD hE hqt os hs X hX hF hXl hbl N0 hN hB hT (wpAnyH P .any os Q' (fun w'=>Mem W G m0 β0 ρ0 w')) True j fuel listed m t _ Q' β ρ a w p hj (fun _ h1 h2 hy hm0 h=>wpAnyH_take hj hs h1 h2 (fun c a w hp=>((hq _ _ _).1 hp).elim) (hy.imp (fun q=>⟨q.1,fun w hS=>q.2 w fun _=>hS⟩) id) hm0 h) (fun m' t' β' ρ' a' w' h hβ hsz hm0 hm hr hd=>dW hE hqt os hs X hX hF hXl hbl N0 hN hB hT s fuel _ m' t' k Q' β' ρ' a' w' hq hk hl2 hv3 hβ hsz hm0 hm hr hd h) hβ hsz hm0 hm hr hd h.2.1
   have D:=fD hE hqt os hs X hX hF hXl hbl N0 hN hB hT (wpAnyH P .any os Q' (fun w'=>Mem W G m0 β0 ρ0 w')) True n fuel listed m t _ Q' β ρ a w q' hn (fun _ h1 h2 hy hm0 h=>wpAnyH_take hn hs h1 h2 (fun c a w hp=>((hq _ _ _).1 hp).elim) (hy.imp (fun q=>⟨q.1,fun w hS=>q.2 w fun _=>hS⟩) id) hm0 h) (fun m' t' β' ρ' a' w' h hβ hsz hm0 hm hr hd=>dW hE hqt os hs X hX hF hXl hbl N0 hN hB hT u fuel _ m' t' k Q' β' ρ' a' w' hq hk hl3 hv4 hβ hsz hm0 hm hr hd h) hβ hsz hm0 hm hr hd h.2.2
   refine wpAnyH_all hrd (by simp) fun x hx=>?_
   rcases (by simpa using hx:x=i∨x=j∨x=n) with rfl | rfl | rfl
   ·exact A.2 hv1.1.1.1 hv1.1.1.2
   ·exact B.2 hv1.1.2 hv1.2
   ·exact D.2 hv0.1 hv0.2
end
section
variable {P : Program} {os : Array Oper} {Q : Exit → Act → World → Prop} {S : World → Prop} {B : Nat → Bool}
def qo (P:Program) (os:Array Oper) (Q:Exit→Act→World→Prop) (S:World→Prop) (B:Nat→Bool):Nat→Array Bool→Act→World→Prop
 | 0,l,a,w=>Region.ready .any os l=[]∧Q .normal a w
 | f+1,l,a,w=>(Region.ready .any os l=[]→Q .normal a w)∧∀i∈Region.ready .any os l,wpOp P os Q i (fun a' w'=>(B i=false→S w→S w')∧qo P os Q S B f (l.setIfInBounds i true) a' w') a w
def yz:∀(f:Nat) (l:Array Bool) (a:Act) (w:World),qo P os Q S B f l a w→wpAny P .any os Q f l a w
 | 0,_,_,_,h=>h
 | f+1,_,_,_,h=>⟨h.1,fun i hi=>wpOp_mono (fun a' w' h'=>yz f _ a' w' h'.2) (h.2 i hi)⟩
def DL {i j:Nat} {oj:Oper} {l:Array Bool} (hj:j∈Region.ready .any os l) (hoj:os[j]?=some oj) (hi:l.getD i true=false):∀e∈oj.after,Region.binds .any e=true→e.on≠i:=by
 intro e he hb heq
 obtain ⟨_,o,ho,hall⟩:=mem_ready.1 hj
 rw [hoj] at ho
 cases ho
 have h1:=hall e he hb
 rw [heq] at h1
 cases hl:l[i]? with
 | none=>rw [Array.getD_eq_getD_getElem?,hl] at h1;cases h1
 | some x=>
  rw [Array.getD_eq_getD_getElem?,hl] at h1 hi
  simp only [Option.getD_some] at h1 hi
  rw [h1] at hi
  cases hi
def kR (os:Array Oper) (l:Array Bool):Prop:=∀(j:Nat) (oj:Oper),os[j]?=some oj→l.getD j false=true→∀e∈oj.after,Region.binds .any e=true→l.getD e.on false=true
def zk (n:Nat):kR os (Array.replicate n false):=by
 intro j oj _ h
 rw [Array.getD_eq_getD_getElem?,Array.getElem?_replicate] at h
 split at h <;> cases h
def oz {l:Array Bool} {i j:Nat} (h:l.getD j false=true):(l.setIfInBounds i true).getD j false=true:=by
 rw [Array.getD_eq_getD_getElem?] at h ⊢
 rw [Array.getElem?_setIfInBounds]
 split
 ·subst_vars
  split
  ·rfl
  ·rename_i hn
   rw [Array.getElem?_eq_none (by omega)] at h
   cases h
 ·exact h
def kR.set {l:Array Bool} {i:Nat} (h:kR os l) (hi:i∈Region.ready .any os l):kR os (l.setIfInBounds i true):=by
 intro j oj hj hl e he hb
 apply oz
 by_cases hij:j=i
 ·subst hij
  obtain ⟨_,o,ho,hall⟩:=mem_ready.1 hi
  rw [hj] at ho
  cases ho
  exact hall e he hb
 ·refine h j oj hj ?_ e he hb
  rw [Array.getD_eq_getD_getElem?] at hl ⊢
  rw [Array.getElem?_setIfInBounds,if_neg (fun e=>hij e.symm)] at hl
  exact hl
def qM (os:Array Oper):Nat→Nat→Nat→Bool
 | 0,_,_=>false
 | f+1,b,i=>match os[b]? with
  | some ob=>ob.after.any (fun e=>Region.binds .any e&&(e.on==i||qM os f e.on i))
  | none=>false
def ot {l:Array Bool} (hc:kR os l) {i:Nat}:∀(f b:Nat) (ob:Oper),os[b]?=some ob→(∀e∈ob.after,Region.binds .any e=true→l.getD e.on false=true)→qM os f b i=true→l.getD i false=true
 | 0,b,ob,hb,h,hn=>by cases hn
 | f+1,b,ob,hb,h,hn=>by
  unfold qM at hn
  rw [hb] at hn
  simp only [Array.any_eq_true'] at hn
  obtain ⟨e,he,hn⟩:=hn
  simp only [Bool.and_eq_true,Bool.or_eq_true,beq_iff_eq] at hn
  obtain ⟨hbi,hn⟩:=hn
  have hl:=h e he hbi
  rcases hn with rfl | hn
  ·exact hl
  ·cases ho:os[e.on]? with
   | none=>
    cases f with
    | zero=>cases hn
    | succ f=>unfold qM at hn;rw [ho] at hn;cases hn
   | some o=>exact ot hc f e.on o ho (hc e.on o ho hl) hn
def ze {l:Array Bool} (hc:kR os l) {i b f:Nat} (hb:b∈Region.ready .any os l) (hn:qM os f b i=true) (hi:l.getD i true=false):False:=by
 obtain ⟨_,o,ho,hall⟩:=mem_ready.1 hb
 have h:=ot hc f b o ho hall hn
 rw [Array.getD_eq_getD_getElem?] at h hi
 cases hl:l[i]? with
 | none=>rw [hl] at h;cases h
 | some x=>rw [hl] at h hi;simp at h hi;rw [h] at hi;cases hi
def BB {i:Nat} {oi:Oper} {v:Value} (hi:os[i]?=some oi) (hs:Region.noSelect os=true) (hQ:∀c a w,Q (.panic c) (a.put oi.dst v) w→Q (.panic c) a w)
  (hwait:reads oi=true→∀b,B b=true→∃f,qM os f b i=true) (hBi:B i=false) :
  ∀(f:Nat) (l:Array Bool) (a:Act) (w:World),kR os l→
   (∀j oj,os[j]?=some oj→j≠i→l.getD j true=false→(∀e∈oj.after,Region.binds .any e=true→e.on≠i)→oi.apart os oj=true)→
   i∈Region.ready .any os l→YieldsIf P os (fun w'=>reads oi=true→S w') oi v a→(reads oi=true→S w)→qo P os Q S B f (l.setIfInBounds i true) (a.put oi.dst v) w→qo P os Q S B (f+1) l a w:=by
 intro f
 induction f with
 | zero=>
  intro l a w _ _ hr hy hS H
  refine ⟨fun h=>(by rw [h] at hr;cases hr),fun j hj=>?_⟩
  by_cases hji:j=i
  ·subst hji
   exact hy.wpOp hi hS ⟨fun _ h=>h,H⟩
  ·have:=ready_mono hj hji
   rw [H.1] at this
   cases this
 | succ f ih=>
  intro l a w hcl hap hr hy hS H
  refine ⟨fun h=>(by rw [h] at hr;cases hr),fun j hj=>?_⟩
  by_cases hji:j=i
  ·subst hji
   exact hy.wpOp hi hS ⟨fun _ h=>h,H⟩
  ·have hun:=(mem_ready.1 hr).1
   obtain ⟨hjun,oj,hoj,_⟩:=mem_ready.1 hj
   have hno:=DL hj hoj hun
   have hjb:reads oi=true→B j=false:=by
    intro hrd
    cases hb:B j with
    | false=>rfl
    | true=>
     obtain ⟨g,hg⟩:=hwait hrd j hb
     exact (ze hcl hj hg hun).elim
   have h1:=wpOp_putIf hoj (hap j oj hoj hji hjun hno) (fun cs c=>Region.noSelect_spec hs i oi cs c hi) (fun cs c=>Region.noSelect_spec hs j oj cs c hoj) hQ hy (H.2 j (ready_mono hj hji))
   refine wpOp_mono (fun a' w' h3=>⟨h3.2.1,ih _ a' w' (hcl.set hj) ?_ (ready_mono hr (Ne.symm hji)) h3.1 (fun hrd=>h3.2.1 (hjb hrd) (hS hrd)) ?_⟩) h1
   ·intro k ok hk hki hku hkn
    refine hap k ok hk hki ?_ hkn
    by_cases hjk:j=k
    ·exact hjk▸hjun
    ·rwa [getD_set_ne true hjk] at hku
   ·rw [Array.setIfInBounds_comm _ _ hji]
    exact h3.2.2
def CX {l:Array Bool} {a:Act} {w:World} (hr:Region.ready .any os l=[]) (h:Q .normal a w):∀f,qo P os Q S B f l a w
 | 0=>⟨hr,h⟩
 | _+1=>⟨fun _=>h,by rw [hr];simp⟩
end
section
variable {P : Program} {W : World} {G : Option Nat} {Q : Ending → World → Prop} {E : Env} {ds : List Deferred}
def rY (os:Array Oper) (tl:List Nat):Array Bool→Ord→Bool
 | listed,.done=>(Region.ready .any os listed).isEmpty
 | listed,.last i r=>tl.contains i&&(match os[i]? with | some o=>o.guard.isNone | none=>false)&&(Region.ready .any os listed==[i])&&rY os tl (listed.setIfInBounds i true) r
 | _,_=>false
def eF (os:Array Oper) (tl:List Nat):Array Bool→Ord→Bool
 | listed,.one i r=>(match os[i]? with
   | some o=>(bif takes true o then Region.free .any os listed i&&(Region.ready .any os listed).contains i&&((!reads o||tl.all (fun b=>qM os os.size b i)) && !tl.contains i) else (Region.ready .any os listed==[i]) && !isApp o)
   | none=>false)&&eF os tl (listed.setIfInBounds i true) r
 | listed,.last i r=>rY os tl listed (.last i r)
 | listed,.fork i r j s=>(Region.ready .any os listed==[i,j])&&(match os[i]?,os[j]? with
   | some o,some p=>!takes true o && !isApp o && !takes true p && !isApp p
   | _,_=>false)&&eF os tl (listed.setIfInBounds i true) r&&eF os tl (listed.setIfInBounds j true) s
 | listed,.fork3 i r j s l u=>(Region.ready .any os listed==[i,j,l])&&((match os[i]?,os[j]? with
   | some o,some p=>!takes true o && !isApp o && !takes true p && !isApp p
   | _,_=>false)&&(match os[l]? with
   | some o=>!takes true o && !isApp o
   | _=>false))&&eF os tl (listed.setIfInBounds i true) r&&eF os tl (listed.setIfInBounds j true) s&&eF os tl (listed.setIfInBounds l true) u
 | listed,.now i r=>(match os[i]? with
   | some o=>takes true o&&(Region.free .any os listed i&&(Region.ready .any os listed==[i]))
   | none=>false)&&eF os tl (listed.setIfInBounds i true) r
 | _,_=>false
def jX:Ord→List Nat
 | .one _ r=>jX r
 | .last b r=>b::jX r
 | .fork _ r _ _=>jX r
 | .fork3 _ r _ _ _ _=>jX r
 | .now _ r=>jX r
 | _=>[]
def sC (hE:E.Ok P) (os:Array Oper) (S:World→Prop) (tl:List Nat) :
  ∀(l:Ord) (fuel:Nat) (listed:Array Bool) (m:M) (t:List T) (k:M→List T→Tree) (Q':Exit→Act→World→Prop) (β ρ) (a:Act) (w:World),
  (∀m' t',(k m' t').aD P W G Q ds→∀β ρ a w,Mem W G m' β ρ w→ak β ρ t' a.tmps.toList→a.defers=ds→Q' .normal a w)→
  l.len≤fuel→rY os tl listed l=true→Mem W G m β ρ w→ak β ρ t a.tmps.toList→a.defers=ds→(vl E os.toList l m t k).aD P W G Q ds→qo P os Q' S (fun j=>tl.contains j) fuel listed a w
 | .done,fuel,listed,m,t,k,Q',β,ρ,a,w,hk,hl,hv,hm,hr,hd,h=>by
  simp only [rY,List.isEmpty_iff] at hv
  exact CX hv (hk m t h β ρ a w hm hr hd) fuel
 | .one i r,fuel,listed,m,t,k,Q',β,ρ,a,w,hk,hl,hv,hm,hr,hd,h=>by cases hv
 | .fork i r j s,fuel,listed,m,t,k,Q',β,ρ,a,w,hk,hl,hv,hm,hr,hd,h=>by cases hv
 | .fork3 i r j s l u,fuel,listed,m,t,k,Q',β,ρ,a,w,hk,hl,hv,hm,hr,hd,h=>by cases hv
 | .now i r,fuel,listed,m,t,k,Q',β,ρ,a,w,hk,hl,hv,hm,hr,hd,h=>by cases hv
 | .last i r,0,listed,m,t,k,Q',β,ρ,a,w,hk,hl,hv,hm,hr,hd,h=>by simp [Ord.len] at hl
 | .last i r,fuel+1,listed,m,t,k,Q',β,ρ,a,w,hk,hl,hv,hm,hr,hd,h=>by
  simp only [rY,Bool.and_eq_true,beq_iff_eq] at hv
  obtain ⟨⟨⟨hvi,hv1⟩,hv2⟩,hv3⟩:=hv
  cases hi:os[i]? with
  | none=>rw [hi] at hv1;cases hv1
  | some o=>
   rw [hi] at hv1
   simp only [Option.isNone_iff_eq_none] at hv1
   have hp:bh os.toList [i]=[o]:=by
    have:nth os.toList i=some o:=by rw [eU];simpa using hi
    simp only [bh,this]
   simp only [vl] at h
   rw [hp] at h
   simp only [ops,hv1,fA,cond_true,mA,bO,ki] at h
   refine ⟨fun h0=>absurd (hv2▸h0) (by simp),fun j hj=>?_⟩
   rw [hv2] at hj
   obtain rfl:j=i:=by simpa using hj
   unfold wpOp
   rw [hi]
   have hw:Region.wanted o (yielded os a.tmps)=true:=by simp [Region.wanted,hv1]
   simp only [hw,if_true]
   refine .inl (nM hE ⟨[],by simp⟩ ⟨[],by simp⟩ hm.bl hm hm hr h fun m' t2 x β' ρ' w' y h hm' hr2 hx hmv=>?_)
   refine ⟨fun hne=>absurd hvi (by rw [hne];simp),?_⟩
   exact sC hE os S tl r fuel _ m' _ k Q' β' ρ' _ w' hk (by simp only [Ord.len] at hl;omega) hv3 hm' (hr2.put o.dst hx) (by rw [put_defers];exact hd) h
def ic (hE:E.Ok P) (hqt:E.quiet=true) (os:Array Oper) (hs:Region.noSelect os=true) (X:List Nat) {m0:M} {β0:List Nat} {ρ0:List Value} (hX:∀b∈X,(m0.own[b]?).join=none) (hF:∀φ∈m0.facts,∀b∈X,∀g,β0[b]?=some g→φ.g≠some g) (hXl:∀b∈X,b<β0.length) (hbl:β0.length=m0.own.length) (N0:Nat) (hN:∀φ∈m0.facts,∀g,φ.g=some g→g<N0) (hB:E.bare=true→∀φ∈m0.facts,∀ψ∈E.base,∀g,ψ.g=some g→φ.g≠some g) (hT:E.bare=true→∀φ∈E.base,∀g,φ.g=some g→lB m0 β0 ρ0 g) (tl:List Nat) :
  ∀(l:Ord) (fuel:Nat) (listed:Array Bool) (m:M) (t:List T) (k:M→List T→Tree) (Q':Exit→Act→World→Prop) (β ρ) (a:Act) (w:World),
  (∀c a w,Q' (.panic c) a w↔False)→
  (∀m' t',(k m' t').aD P W G Q ds→∀β ρ a w,Mem W G m' β ρ w→ak β ρ t' a.tmps.toList→a.defers=ds→Q' .normal a w)→
  l.len≤fuel→eF os tl listed l=true→kR os listed→((∃β1,β=β0++β1∧∀g∈β1,N0≤g)∧∃ρ1,ρ=ρ0++ρ1)→N0≤w.heap.size→Mem W G m0 β0 ρ0 w→
  Mem W G m β ρ w→ak β ρ t a.tmps.toList→a.defers=ds→(ku E (some X) os.toList l m0 m t k).aD P W G Q ds→qo P os Q' (fun w'=>Mem W G m0 β0 ρ0 w') (fun j=>tl.contains j) fuel listed a w
 | .done,fuel,listed,m,t,k,Q',β,ρ,a,w,hq,hk,hl,hv,hcl,hβ,hsz,hm0,hm,hr,hd,h=>by cases hv
 | .fork i r j s,0,listed,m,t,k,Q',β,ρ,a,w,hq,hk,hl,hv,hcl,hβ,hsz,hm0,hm,hr,hd,h=>by simp [Ord.len] at hl
 | .fork3 i r j s l u,0,listed,m,t,k,Q',β,ρ,a,w,hq,hk,hl,hv,hcl,hβ,hsz,hm0,hm,hr,hd,h=>by simp [Ord.len] at hl
 | .fork i r j s,fuel+1,listed,m,t,k,Q',β,ρ,a,w,hq,hk,hl,hv,hcl,hβ,hsz,hm0,hm,hr,hd,h=>by
  simp only [eF,Bool.and_eq_true,beq_iff_eq] at hv
  obtain ⟨⟨⟨hrd,hv1⟩,hv2⟩,hv3⟩:=hv
  have one:∀(i:Nat) (r:Ord),i∈Region.ready .any os listed→(∃o,os[i]?=some o∧takes true o=false∧isApp o=false)→r.len≤fuel→eF os tl (listed.setIfInBounds i true) r=true→(ku E (some X) os.toList (.one i r) m0 m t k).aD P W G Q ds→wpOp P os Q' i (fun a' w'=>((fun j=>tl.contains j) i=false→Mem W G m0 β0 ρ0 w→Mem W G m0 β0 ρ0 w')∧qo P os Q' (fun w'=>Mem W G m0 β0 ρ0 w') (fun j=>tl.contains j) fuel (listed.setIfInBounds i true) a' w') a w:=fun i r hrdy ⟨o,hi,ht,ha⟩ hlen hv2 h=>by
   have A:=fD hE hqt os hs X hX hF hXl hbl N0 hN hB hT (qo P os Q' (fun w'=>Mem W G m0 β0 ρ0 w') (fun j=>tl.contains j)) False i fuel listed m t _ Q' β ρ a w o hi
    (fun hwt=>hwt.elim)
    (fun m' t' β' ρ' a' w' h hβ hsz hm0 hm hr hd=>ic hE hqt os hs X hX hF hXl hbl N0 hN hB hT tl r fuel _ m' t' k Q' β' ρ' a' w' hq hk hlen hv2 (hcl.set hrdy) hβ hsz hm0 hm hr hd h) hβ hsz hm0 hm hr hd h
   exact wpOp_mono (fun a' w' h=>⟨fun _ _=>h.1,h.2⟩) (A.2 ht ha)
  cases hi:os[i]? with
  | none=>rw [hi] at hv1;cases hv1
  | some o=>
  cases hj:os[j]? with
  | none=>rw [hi,hj] at hv1;cases hv1
  | some p=>
   rw [hi,hj] at hv1
   simp only [Bool.and_eq_true,Bool.not_eq_true'] at hv1
   have hl1:r.len≤fuel:=by simp only [Ord.len] at hl;omega
   have hl2:s.len≤fuel:=by simp only [Ord.len] at hl;omega
   refine ⟨fun h0=>absurd (hrd▸h0) (by simp),fun x hx=>?_⟩
   have hx':=hx
   rw [hrd] at hx'
   rcases (by simpa using hx':x=i∨x=j) with rfl | rfl
   ·exact one x r hx ⟨o,hi,hv1.1.1.1,hv1.1.1.2⟩ hl1 hv2 h.1
   ·exact one x s hx ⟨p,hj,hv1.1.2,hv1.2⟩ hl2 hv3 h.2
 | .fork3 i r j s n u,fuel+1,listed,m,t,k,Q',β,ρ,a,w,hq,hk,hl,hv,hcl,hβ,hsz,hm0,hm,hr,hd,h=>by
  simp only [eF,Bool.and_eq_true,beq_iff_eq] at hv
  obtain ⟨⟨⟨⟨hrd,hv1,hv0⟩,hv2⟩,hv3⟩,hv4⟩:=hv
  have one:∀(i:Nat) (r:Ord),i∈Region.ready .any os listed→(∃o,os[i]?=some o∧takes true o=false∧isApp o=false)→r.len≤fuel→eF os tl (listed.setIfInBounds i true) r=true→(ku E (some X) os.toList (.one i r) m0 m t k).aD P W G Q ds→wpOp P os Q' i (fun a' w'=>((fun j=>tl.contains j) i=false→Mem W G m0 β0 ρ0 w→Mem W G m0 β0 ρ0 w')∧qo P os Q' (fun w'=>Mem W G m0 β0 ρ0 w') (fun j=>tl.contains j) fuel (listed.setIfInBounds i true) a' w') a w:=fun i r hrdy ⟨o,hi,ht,ha⟩ hlen hv2 h=>by
   have A:=fD hE hqt os hs X hX hF hXl hbl N0 hN hB hT (qo P os Q' (fun w'=>Mem W G m0 β0 ρ0 w') (fun j=>tl.contains j)) False i fuel listed m t _ Q' β ρ a w o hi
    (fun hwt=>hwt.elim)
    (fun m' t' β' ρ' a' w' h hβ hsz hm0 hm hr hd=>ic hE hqt os hs X hX hF hXl hbl N0 hN hB hT tl r fuel _ m' t' k Q' β' ρ' a' w' hq hk hlen hv2 (hcl.set hrdy) hβ hsz hm0 hm hr hd h) hβ hsz hm0 hm hr hd h
   exact wpOp_mono (fun a' w' h=>⟨fun _ _=>h.1,h.2⟩) (A.2 ht ha)
  cases hi:os[i]? with
  | none=>rw [hi] at hv1;cases hv1
  | some o=>
  cases hj:os[j]? with
  | none=>rw [hi,hj] at hv1;cases hv1
  | some p=>
  cases hn:os[n]? with
  | none=>rw [hn] at hv0;cases hv0
  | some q'=>
   rw [hi,hj] at hv1
   rw [hn] at hv0
   simp only [Bool.and_eq_true,Bool.not_eq_true'] at hv1 hv0
   have hl1:r.len≤fuel:=by simp only [Ord.len] at hl;omega
   have hl2:s.len≤fuel:=by simp only [Ord.len] at hl;omega
   have hl3:u.len≤fuel:=by simp only [Ord.len] at hl;omega
   refine ⟨fun h0=>absurd (hrd▸h0) (by simp),fun x hx=>?_⟩
   have hx':=hx
   rw [hrd] at hx'
   rcases (by simpa using hx':x=i∨x=j∨x=n) with rfl | rfl | rfl
   ·exact one x r hx ⟨o,hi,hv1.1.1.1,hv1.1.1.2⟩ hl1 hv2 h.1
   ·exact one x s hx ⟨p,hj,hv1.1.2,hv1.2⟩ hl2 hv3 h.2.1
   ·exact one x u hx ⟨q',hn,hv0.1,hv0.2⟩ hl3 hv4 h.2.2
 | .now i r,0,listed,m,t,k,Q',β,ρ,a,w,hq,hk,hl,hv,hcl,hβ,hsz,hm0,hm,hr,hd,h=>by simp [Ord.len] at hl
 | .now i r,fuel+1,listed,m,t,k,Q',β,ρ,a,w,hq,hk,hl,hv,hcl,hβ,hsz,hm0,hm,hr,hd,h=>by
  simp only [eF,Bool.and_eq_true] at hv
  obtain ⟨hv1,hv2⟩:=hv
  simp only [ku] at h
  cases hbr:E.bare with
  | true=>rw [hbr] at h;exact h.elim
  | false=>
  rw [hbr] at h
  simp only [] at h
  cases hi:os[i]? with
  | none=>rw [hi] at hv1;cases hv1
  | some o=>
   rw [hi] at hv1
   simp only [Bool.and_eq_true,beq_iff_eq] at hv1
   obtain ⟨ht,hfree,hrd⟩:=hv1
   have hlen:r.len≤fuel:=by simpa [Ord.len] using hl
   have hrdy:i∈Region.ready .any os listed:=by rw [hrd];simp
   have A:=fD hE hqt os hs [] (m0:=m) (β0:=β) (ρ0:=ρ) (fun b hb=>by cases hb) (fun φ _ b hb=>by cases hb) (fun b hb=>by cases hb) hm.bl w.heap.size (fun φ hφ g hg=>by
    obtain ⟨_,o,ho,_⟩:=hm.fact φ hφ g hg
    exact (Array.getElem?_eq_some_iff.1 ho).1) (fun hb=>by rw [hbr] at hb;cases hb) (fun hb=>by rw [hbr] at hb;cases hb)
    (fun f l a' w'=>w'=w→qo P os Q' (fun w'=>Mem W G m0 β0 ρ0 w') (fun j=>tl.contains j) f l a' w') True i fuel listed m t _ Q' β ρ a w o hi
    (fun {v a w1} _ _ _ hy hmm hAA hw1=>by
     refine ⟨fun h0=>absurd (hrd▸h0) (by simp),fun j hj=>?_⟩
     rw [hrd] at hj
     obtain rfl:j=i:=by simpa using hj
     exact hy.wpOp hi (fun _=>hmm) ⟨fun _ _=>hw1▸hm0,hAA hw1⟩)
    (fun m' t' β' ρ' a' w' h hβ' hsz' hmm hm' hr' hd' hw'=>by
     subst hw'
     obtain ⟨⟨β1,hb1,hb2⟩,ρ1,hr1⟩:=hβ
     obtain ⟨⟨β2,hb3,hb4⟩,ρ2,hr2⟩:=hβ'
     exact ic hE hqt os hs X hX hF hXl hbl N0 hN hB hT tl r fuel _ m' t' k Q' β' ρ' a' w' hq hk hlen hv2 (hcl.set hrdy) ⟨⟨β1++β2,by rw [hb3,hb1,List.append_assoc],fun g hg=>(List.mem_append.1 hg).elim (hb2 g) fun hg=>Nat.le_trans hsz (hb4 g hg)⟩,ρ1++ρ2,by rw [hr2,hr1,List.append_assoc]⟩ hsz hm0 hm' hr' hd' h)
    ⟨⟨[],by simp,by simp⟩,[],by simp⟩ (Nat.le_refl _) hm hm hr hd h
   exact A.1 trivial ht hfree (by rw [hrd];simp) rfl
 | .one i r,0,listed,m,t,k,Q',β,ρ,a,w,hq,hk,hl,hv,hcl,hβ,hsz,hm0,hm,hr,hd,h=>by simp [Ord.len] at hl
 | .last i r,fuel,listed,m,t,k,Q',β,ρ,a,w,hq,hk,hl,hv,hcl,hβ,hsz,hm0,hm,hr,hd,h=>sC (E:={ E with quiet:=false }) ⟨hE.zero,hE.agg1,hE.aggN,hE.off,hE.row,hE.str,hE.strs,hE.ints,hE.size,hE.mixed,hE.row1,hE.meth,hE.arr⟩ os _ tl (.last i r) fuel listed m t k Q' β ρ a w hk hl hv hm hr hd h
 | .one i r,fuel+1,listed,m,t,k,Q',β,ρ,a,w,hq,hk,hl,hv,hcl,hβ,hsz,hm0,hm,hr,hd,h=>by
  simp only [eF,Bool.and_eq_true] at hv
  obtain ⟨hv1,hv2⟩:=hv
  cases hi:os[i]? with
  | none=>rw [hi] at hv1;cases hv1
  | some o=>
   rw [hi] at hv1
   simp only [] at hv1
   have hlen:r.len≤fuel:=by simpa [Ord.len] using hl
   have hrdy:i∈Region.ready .any os listed:=by
    cases ht:takes true o with
    | true=>rw [ht] at hv1;simp only [cond_true,Bool.and_eq_true] at hv1;simpa using hv1.1.2
    | false=>rw [ht] at hv1;simp only [cond_false,Bool.and_eq_true,beq_iff_eq] at hv1;rw [hv1.1];simp
   have A:=fD hE hqt os hs X hX hF hXl hbl N0 hN hB hT (qo P os Q' (fun w'=>Mem W G m0 β0 ρ0 w') (fun j=>tl.contains j)) (((!reads o||tl.all (fun b=>qM os os.size b i)) && !tl.contains i)=true) i fuel listed m t _ Q' β ρ a w o hi
    (fun {v a w} hwt h1 h2 hy hm0 h=>by
     simp only [Bool.and_eq_true,Bool.or_eq_true,List.all_eq_true,Bool.not_eq_true'] at hwt
     exact BB hi hs (fun c a w hp=>((hq _ _ _).1 hp).elim) (fun hrd b hb=>⟨os.size,(hwt.1.resolve_left (by rw [hrd];simp)) b (by simpa using hb)⟩) hwt.2 fuel listed a w hcl (Region.free_spec hi h1) (by simpa using h2) hy (fun _=>hm0) h)
    (fun m' t' β' ρ' a' w' h hβ hsz hm0 hm hr hd=>ic hE hqt os hs X hX hF hXl hbl N0 hN hB hT tl r fuel _ m' t' k Q' β' ρ' a' w' hq hk hlen hv2 (hcl.set hrdy) hβ hsz hm0 hm hr hd h) hβ hsz hm0 hm hr hd h
   cases ht:takes true o with
   | true=>
    rw [ht] at hv1
    simp only [cond_true] at hv1
    have hv1:=Bool.and_eq_true_iff.1 hv1
    have hv3:=Bool.and_eq_true_iff.1 hv1.1
    exact A.1 hv1.2 ht hv3.1 hv3.2
   | false=>
    rw [ht] at hv1
    simp only [cond_false,Bool.and_eq_true,beq_iff_eq,Bool.not_eq_true'] at hv1
    refine ⟨fun h0=>absurd (hv1.1▸h0) (by simp),fun j hj=>?_⟩
    rw [hv1.1] at hj
    obtain rfl:j=i:=by simpa using hj
    exact wpOp_mono (fun a' w' h=>⟨fun _ _=>h.1,h.2⟩) (A.2 ht hv1.2)
def aR (sch:List (Nat×(Ord×List Nat))):Code→Bool
 | .region id os draw=>match draw with
  | false=>true
  | true=>match lk sch id with
   | some (l,_)=>Region.noSelect os&&(dr os (Array.replicate os.size false) l||eF os (jX l) (Array.replicate os.size false) l)&&Nat.ble l.len os.size
   | none=>true
 | .seq a b=>aR sch a&&aR sch b
 | .cond _ a b=>aR sch a&&aR sch b
 | .block _ a=>aR sch a
 | .loop a=>aR sch a
 | .scope a=>aR sch a
 | _=>true
def NoPanic.panic {Q:Exit→Act→World→Prop} (c a w):NoPanic Q (.panic c) a w↔False:=Iff.rfl
def mB {β ρ} {t:List T} {a:Act} {c:Operand} {b:Bool} (hr:ak β ρ t a.tmps.toList) (hc:ev t c=.v (.bool b)):ak β ρ (GY t c b) a.tmps.toList:=by
 cases c with
 | tmp i=>
  have h:=hr.get i
  have hc:get t i=.v (.bool b):=hc
  rw [hc] at h
  have hlt:i<t.length:=by
   rcases Nat.lt_or_ge i t.length with hl | hl
   ·exact hl
   ·unfold Sx.get at hc
    rw [List.getD_eq_getElem?_getD,List.getElem?_eq_none hl] at hc
    cases hc
  have hget:a.tmps.toList[i]?=some (.bool b):=by
   have h:a.tmps.toList.getD i undef=.bool b:=h
   rw [List.getD_eq_getElem?_getD] at h
   cases hq:a.tmps.toList[i]? with
   | none=>exact absurd hlt (by rw [← hr.1];exact Nat.not_lt.2 (List.getElem?_eq_none_iff.1 hq))
   | some y=>rw [hq] at h;rw [← h];rfl
  exact hr.known i hget (show Rel β ρ (.v (.bool _)) (.bool _) from rfl)
 | _=>exact hr
def kD {β ρ} {l:List Value} {w:World}:∀(is:List Nat) {m:M} {t:List T} {k:List T→M→List T→Tree},Mem W G m β ρ w→ak β ρ t l→(bW (zD is) m t k).aD P W G Q ds→
  ∃xs' m' t',(k xs' m' t').aD P W G Q ds∧Mem W G m' β ρ w∧ak β ρ t' l
 | [],m,t,k,hm,hr,h=>⟨_,_,_,h,hm,hr⟩
 | i::is,m,t,k,hm,hr,h=>by
  simp only [zD,bW] at h
  cases hi:(m.rows[i]?).join with
  | none=>simp only [dV,je] at h;rw [hi] at h;exact h.elim
  | some r=>
   obtain ⟨v,hv,ho⟩:=hm.row i r (join_eq hi)
   obtain ⟨x',m',t',h,hm',hr',_⟩:=cD (x:=.r i) (y:=v) hm hr hv h
   obtain ⟨xs',m2,t2,h,hm2,hr2⟩:=kD is hm' hr' h
   exact ⟨_,_,_,h,hm2,hr2⟩
def dw (hE:E.Ok P) (sch:List (Nat×(Ord×List Nat))):∀(c:Code),aR sch c=true→∀(m:M) (t:List T) (k:Exit→M→List T→Tree) (Q':Exit→Act→World→Prop) (β ρ) (a:Act) (w:World),
  (∀e m' t',(k e m' t').aD P W G Q ds→∀β ρ a w,Mem W G m' β ρ w→ak β ρ t' a.tmps.toList→a.defers=ds→Q' e a w)→
  Mem W G m β ρ w→ak β ρ t a.tmps.toList→a.defers=ds→(exec E sch c m t k).aD P W G Q ds→c.wp P Q' a w:=by
 intro c
 induction c with
 | skip=>intro _ m t k Q' β ρ a w hk hm hr hd h;exact wp_skip (hk _ _ _ h _ _ _ _ hm hr hd)
 | region id os draw=>
  intro hs m t k Q' β ρ a w hk hm hr hd h
  cases draw with
  | false=>
   refine wp_region_list ?_
   have:=mE (Q:=Q) (W:=W) hE os.toList os.toList m m t (k .normal) Q' β ρ a w (fun m' t' hh β ρ a w=>hk _ m' t' hh β ρ a w) hm hr hd h
   simpa using this
  | true=>
   simp only [exec] at h
   obtain ⟨_,m,t,h,hm,hr⟩:=kD _ hm hr h
   simp only [aR] at hs
   cases hl:lk sch id with
   | none=>rw [hl] at h;exact h.elim
   | some q=>
    obtain ⟨l,X⟩:=q
    rw [hl] at h hs
    simp only [Bool.and_eq_true,Nat.ble_eq] at hs
    simp only [] at h
    cases hX:alive m X with
    | false=>rw [hX] at h;exact h.elim
    | true=>
     rw [hX] at h
     simp only [cond_true] at h
     obtain ⟨k1,k2,k3,k4,k5⟩:=uW X m
     obtain ⟨bs,m0,h,hbs,h1,h2,h3,h4,h5,h6⟩:∃(bs:List Fact) (m0:M),(ku { E with quiet:=true,base:=bs } (some X) os.toList l m0 m t (k .normal)).aD P W G Q ds∧(∀φ∈bs,φ∈m.facts)∧m0.rows=m.rows∧(∀φ∈m0.facts,φ∈m.facts)∧m0.own.length=m.own.length∧(∀b∈X,(m0.own[b]?).join=none)∧(∀(b:Nat) x,m0.own[b]?=some (some x)→m.own[b]?=some (some x))∧(E.bare=true→∀φ∈m0.facts,∀ψ∈bs,∀g,ψ.g=some g→φ.g≠some g):=by
      cases hld:E.lead with
      | zero=>
       rw [hld] at h
       simp only [] at h
       rw [j5 _ _ _ _ _ _ _ _ _ (Nat.lt_succ_self _)] at h
       cases hbr:E.bare with
       | true=>rw [hbr] at h;exact ⟨_,_,h,fun _ h=>h,k1,fun φ (hφ:φ∈([]:List Fact))=>(List.not_mem_nil hφ).elim,k3,k4,k5,fun _ φ (hφ:φ∈([]:List Fact))=>(List.not_mem_nil hφ).elim⟩
       | false=>rw [hbr] at h;exact ⟨_,_,h,fun _ h=>h,k1,fun φ hφ=>by rw [cond_false,k2] at hφ;exact hφ,k3,k4,k5,fun h=>by cases h⟩
      | succ j=>
       rw [hld] at h
       simp only [] at h
       obtain ⟨hsep,h⟩:=h
       rw [j5 _ _ _ _ _ _ _ _ _ (Nat.lt_succ_self _)] at h
       exact ⟨_,_,h,fun _ h=>List.mem_of_mem_drop h,k1,fun φ hφ=>List.mem_of_mem_take hφ,k3,k4,k5,fun _=>hsep⟩
     have hal:=tG X m hX
     have hm':Mem W G m β ρ w.drew:=hm.drew
     have hAp:∀φ∈bs,∀g,φ.g=some g→lB m0 β ρ g:=fun φ hφ g hg=>by
      obtain ⟨⟨a1,a2⟩,_⟩:=hm.fact φ (hbs φ hφ) g hg
      refine ⟨fun b hb=>?_,fun i v hv hvg=>by rw [h1];exact a2 i v hv hvg⟩
      cases hq:(m0.own[b]?).join with
      | none=>rfl
      | some x=>
       have:=a1 b hb
       rw [h5 b x (join_eq hq)] at this
       cases this
     have hM0:Mem W G m0 β ρ w.drew:=hm'.less h3 (by rw [h1]) h5 (fun i x hx=>by rw [h1] at hx;exact hx) (fun φ hφ=>.inl (h2 φ hφ))
     have hs2:=hs.1.2
     simp only [Bool.or_eq_true] at hs2
     have F1:∀φ∈m0.facts,∀b∈X,∀g,β[b]?=some g→φ.g≠some g:=by
      intro φ hφ b hb g hg hφg
      obtain ⟨q,hq⟩:=hal b hb
      have:=(hm.fact φ (h2 φ hφ) g hφg).1.1 b hg
      rw [hq] at this
      cases this
     have F2:∀b∈X,b<β.length:=by
      intro b hb
      obtain ⟨q,hq⟩:=hal b hb
      rw [hm.bl]
      exact (List.getElem?_eq_some_iff.1 hq).1
     have F3:∀φ∈m0.facts,∀g,φ.g=some g→g<w.drew.heap.size:=by
      intro φ hφ g hg
      obtain ⟨_,o,ho,_⟩:=hm'.fact φ (h2 φ hφ) g hg
      exact (Array.getElem?_eq_some_iff.1 ho).1
     have hE':({ E with quiet:=true,base:=bs }:Env).Ok P:=⟨hE.zero,hE.agg1,hE.aggN,hE.off,hE.row,hE.str,hE.strs,hE.ints,hE.size,hE.mixed,hE.row1,hE.meth,hE.arr⟩
     rcases hs2 with hv | hv
     ·refine wp_region_noPanic (wp_region_held (S:=fun w'=>Mem W G m0 β ρ w') hE.mixed ?_)
      exact dW hE' rfl os hs.1.1 X h4 F1 F2 (by rw [h3,hm.bl]) w.drew.heap.size F3 h6 (fun _=>hAp) l _ _ m t (k .normal) _ β ρ a _ NoPanic.panic (fun m' t' hh β ρ a w hm hr hd=>NoPanic.normal (hk _ m' t' hh β ρ a w hm hr hd)) hs.2 hv ⟨⟨[],by simp,by simp⟩,[],by simp⟩ (Nat.le_refl _) hM0 hm' hr hd h
     ·refine wp_region_noPanic (wp_region_any hE.mixed (yz (S:=fun w'=>Mem W G m0 β ρ w') (B:=fun j=>(jX l).contains j) _ _ _ _ ?_))
      exact ic hE' rfl os hs.1.1 X h4 F1 F2 (by rw [h3,hm.bl]) w.drew.heap.size F3 h6 (fun _=>hAp) (jX l) l _ _ m t (k .normal) _ β ρ a _ NoPanic.panic (fun m' t' hh β ρ a w hm hr hd=>NoPanic.normal (hk _ m' t' hh β ρ a w hm hr hd)) hs.2 hv (zk _) ⟨⟨[],by simp,by simp⟩,[],by simp⟩ (Nat.le_refl _) hM0 hm' hr hd h
 | seq x y ihx ihy=>
  intro hs m t k Q' β ρ a w hk hm hr hd h
  simp only [aR,Bool.and_eq_true] at hs
  refine wp_seq (ihx hs.1 m t _ _ β ρ a w ?_ hm hr hd h)
  intro e m' t' hh β ρ a w hm hr hd
  cases e with
  | normal=>exact ihy hs.2 m' t' k Q' β ρ a w hk hm hr hd hh
  | _=>exact hk _ _ _ hh _ _ _ _ hm hr hd
 | cond c x y ihx ihy=>
  intro hs m t k Q' β ρ a w hk hm hr hd h
  simp only [aR,Bool.and_eq_true] at hs
  simp only [exec] at h
  have hc:=hr.ev c
  cases e:ev t c with
  | v u=>
   rw [e] at h hc
   cases u with
   | bool b=>
    have hc:a.eval c=.bool b:=hc
    rcases C6 h with ⟨rfl,h⟩ | ⟨rfl,h⟩
    ·exact wp_cond_true hc (ihx hs.1 m _ k Q' β ρ a w hk hm (mB hr e) hd h)
    ·exact wp_cond_false hc (ihy hs.2 m _ k Q' β ρ a w hk hm (mB hr e) hd h)
   | _=>exact h.elim
  | _=>rw [e] at h;exact h.elim
 | block id x ih=>
  intro hs m t k Q' β ρ a w hk hm hr hd h
  simp only [aR] at hs
  refine wp_block (ih hs m t _ _ β ρ a w ?_ hm hr hd h)
  intro e m' t' hh β ρ a w hm hr hd
  cases e with
  | exit i=>
   simp only [Exit.inBlock]
   cases hb:(i==id) with
   | true=>
    have:i=id:=by simpa using hb
    rw [if_pos this]
    simp only [hb,cond_true] at hh
    exact hk _ _ _ hh _ _ _ _ hm hr hd
   | false=>
    have:¬ i=id:=by simpa using hb
    rw [if_neg this]
    simp only [hb,cond_false] at hh
    exact hk _ _ _ hh _ _ _ _ hm hr hd
  | _=>exact hk _ _ _ hh _ _ _ _ hm hr hd
 | loop x ih=>
  intro hs m t k Q' β ρ a w hk hm hr hd h
  refine Code.wp_mono ?_ (h β ρ a w hm hr hd)
  rintro e a' w' ⟨m',t',β',ρ',hm',hr',hd',hh⟩
  exact hk _ _ _ hh _ _ _ _ hm' hr' hd'
 | scope x ih=>
  intro hs m t k Q' β ρ a w hk hm hr hd h
  refine Code.wp_mono ?_ (h β ρ a w hm hr hd)
  rintro e a' w' ⟨m',t',β',ρ',hm',hr',hd',hh⟩
  exact hk _ _ _ hh _ _ _ _ hm' hr' hd'
 | exit id=>intro _ m t k Q' β ρ a w hk hm hr hd h;exact wp_exit (hk _ _ _ h _ _ _ _ hm hr hd)
 | label l=>intro _ m t k Q' β ρ a w hk hm hr hd h;exact wp_label (hk _ _ _ h _ _ _ _ hm hr hd)
 | goto l=>intro _ m t k Q' β ρ a w hk hm hr hd h;exact wp_goto (hk _ _ _ h _ _ _ _ hm hr hd)
 | ret=>intro _ m t k Q' β ρ a w hk hm hr hd h;exact wp_ret (hk _ _ _ h _ _ _ _ hm hr hd)
 | _=>intro _ m t k Q' β ρ a w hk hm hr hd h;exact h.elim
def Mj:List T→List T→Prop
 | [],[]=>True
 | x::l,y::r=>(y=.any∨x=y)∧Mj l r
 | _,_=>False
def GX {α:Type}:List (Option α)→List (Option α)→Prop
 | _,[]=>True
 | x::l,y::r=>(y=none∨x=y)∧GX l r
 | [],_::_=>False
def Wl (m m':M):Prop:=GX m.own m'.own∧GX m.rows m'.rows∧∀φ∈m'.facts,φ∈m.facts
def Mj.CI {β ρ}:∀{t t':List T} {l:List Value},Mj t t'→ak β ρ t l→ak β ρ t' l
 | [],[],l,_,h=>h
 | x::t,y::t',l,hle,h=>by
  cases l with
  | nil=>have:=h.1;simp at this
  | cons z l=>
   obtain ⟨z',hz,hzr⟩:=h.2 0 x rfl
   simp at hz
   subst hz
   have ht:ak β ρ t l:=⟨by have:=h.1;simpa using this,fun i x hx=>by obtain ⟨u,hu,hur⟩:=h.2 (i+1) x (by simpa using hx);exact ⟨u,by simpa using hu,hur⟩⟩
   refine ak.cons ?_ (Mj.CI hle.2 ht)
   rcases hle.1 with rfl | rfl
   ·trivial
   ·exact hzr
 | [],_::_,_,h,_=>h.elim
 | _::_,[],_,h,_=>h.elim
def GX.get {α:Type}:∀{l r:List (Option α)},GX l r→r.length≤l.length∧∀(i:Nat) x,r[i]?=some (some x)→l[i]?=some (some x)
 | l,[],_=>⟨by simp,by simp⟩
 | x::l,y::r,h=>by
  obtain ⟨h1,h2⟩:=GX.get h.2
  refine ⟨by simpa using h1,fun i z hz=>?_⟩
  cases i with
  | zero=>
   simp at hz
   subst hz
   rcases h.1 with h0 | h0
   ·cases h0
   ·simp [h0]
  | succ i=>simpa using h2 i z (by simpa using hz)
 | [],_::_,h=>h.elim
def fits (nb nr:Nat):List T→Bool
 | []=>true
 | x::l=>(match x with
  | .p b _=>Nat.blt b nb
  | .fn _ c=>c.all fun q=>Nat.blt q.1 nb
  | .s b _=>Nat.blt b nb
  | .r i=>Nat.blt i nr
  | .q i _=>Nat.blt i nr
  | .w i _ _=>Nat.blt i nr
  | _=>true)&&fits nb nr l
def ptr.take {β b o y} {n:Nat} (h:ptr β b o y) (hb:b<n):ptr (β.take n) b o y:=by
 obtain ⟨g,hg,rfl⟩:=h
 exact ⟨g,by rw [List.getElem?_take,if_pos hb];exact hg,rfl⟩
def fits.CI {β ρ} {nb nr:Nat}:∀{t:List T} {l:List Value},fits nb nr t=true→ak β ρ t l→ak (β.take nb) (ρ.take nr) t l
 | [],l,_,h=>by
  have:=List.eq_nil_of_length_eq_zero h.1
  rw [this]
  exact ak.nil
 | x::t,l,hf,h=>by
  cases l with
  | nil=>have:=h.1;simp at this
  | cons z l=>
   obtain ⟨z',hz,hzr⟩:=h.2 0 x rfl
   simp at hz
   subst hz
   have ht:ak β ρ t l:=⟨by have:=h.1;simpa using this,fun i x hx=>by obtain ⟨u,hu,hur⟩:=h.2 (i+1) x (by simpa using hx);exact ⟨u,by simpa using hu,hur⟩⟩
   simp only [fits,Bool.and_eq_true] at hf
   refine ak.cons ?_ (fits.CI hf.2 ht)
   have h1:=hf.1
   cases x with
   | any=>trivial
   | v x=>exact hzr
   | p b o=>exact ptr.take hzr (by simpa [Nat.blt_eq] using h1)
   | fn f c=>
    obtain ⟨cs,rfl,hl,hc⟩:=hzr
    refine ⟨cs,rfl,hl,fun j q hj=>?_⟩
    obtain ⟨u,hu,hp⟩:=hc j q hj
    have:=List.all_eq_true.1 h1 q (List.mem_of_getElem? hj)
    exact ⟨u,hu,hp.take (by simpa [Nat.blt_eq] using this)⟩
   | s b n=>
    obtain ⟨g,hg,rfl⟩:=hzr
    exact ⟨g,by rw [List.getElem?_take,if_pos (by simpa [Nat.blt_eq] using h1)];exact hg,rfl⟩
   | r i=>
    show (ρ.take nr)[i]?=some z
    rw [List.getElem?_take,if_pos (by simpa [Nat.blt_eq] using h1)]
    exact hzr
   | q i o=>
    obtain ⟨v,g,hv,hg,rfl⟩:=hzr
    exact ⟨v,g,by rw [List.getElem?_take,if_pos (by simpa [Nat.blt_eq] using h1)];exact hv,hg,rfl⟩
   | w i lo sz=>
    obtain ⟨a,n,c,hv,hl,rfl⟩:=hzr
    exact ⟨a,n,c,by rw [List.getElem?_take,if_pos (by simpa [Nat.blt_eq] using h1)];exact hv,hl,rfl⟩
def Mem.weaken {m m':M} {β ρ} {w:World} (h:Mem W G m β ρ w) (hle:Wl m m') (hc:∀(b:Nat) cs ty,m'.own[b]?=some (some (cs,ty))→fits m'.own.length m'.rows.length cs=true):Mem W G m' (β.take m'.own.length) (ρ.take m'.rows.length) w:=by
 obtain ⟨h1,h2⟩:=hle.1.get
 obtain ⟨h3,h4⟩:=hle.2.1.get
 constructor
 ·exact h.grown
 ·exact h.nd.sublist (List.take_sublist _ _)
 ·rw [List.length_take,h.bl];omega
 ·exact fun g hg=>h.lo g (List.mem_of_mem_take hg)
 ·intro b cs ty hb
  have hb':=h2 b _ hb
  obtain ⟨g,l,hg,hw,hr,ho⟩:=h.own b cs ty hb'
  refine ⟨g,l,?_,hw,?_,ho⟩
  ·rw [List.getElem?_take,if_pos (List.getElem?_eq_some_iff.1 hb).1];exact hg
  ·exact fits.CI (hc b cs ty hb) hr
 ·rw [List.length_take,h.rl];omega
 ·intro i r hi
  obtain ⟨v,hv,ho⟩:=h.row i r (h4 i _ hi)
  exact ⟨v,by rw [List.getElem?_take,if_pos (List.getElem?_eq_some_iff.1 hi).1];exact hv,ho⟩
 ·intro v hv g hg
  obtain ⟨a,b⟩:=h.rb v (List.mem_of_mem_take hv) g hg
  exact ⟨fun hm=>a (List.mem_of_mem_take hm),b⟩
 ·intro i j v u g hij hv hu
  rw [List.getElem?_take] at hv hu
  split at hv
  ·split at hu
   ·exact h.rows i j v u g hij hv hu
   ·cases hu
  ·cases hv
 ·intro φ hφ g hg
  obtain ⟨⟨a,b⟩,c⟩:=h.fact φ (hle.2.2 φ hφ) g hg
  refine ⟨⟨fun x hx=>?_,fun i v hv e=>?_⟩,c⟩
  ·rw [List.getElem?_take] at hx
   split at hx
   ·cases hq:(m'.own[x]?).join with
    | none=>rfl
    | some q=>
     have:=a x hx
     rw [h2 x q (join_eq hq)] at this
     cases this
   ·cases hx
  ·rw [List.getElem?_take] at hv
   split at hv
   ·cases hq:(m'.rows[i]?).join with
    | none=>rfl
    | some q=>
     have:=b i v hv e
     rw [h4 i q (join_eq hq)] at this
     cases this
   ·cases hv
def lI (n nr:Nat):List (Option (List T×TypeId))→Bool
 | []=>true
 | some (cs,_)::l=>fits n nr cs&&lI n nr l
 | none::l=>lI n nr l
def lI.get {n nr:Nat}:∀{l:List (Option (List T×TypeId))},lI n nr l=true→∀(b:Nat) cs ty,l[b]?=some (some (cs,ty))→fits n nr cs=true
 | some (cs0,ty0)::l,h,b,cs,ty,hb=>by
  simp only [lI,Bool.and_eq_true] at h
  cases b with
  | zero=>simp at hb;rw [← hb.1];exact h.1
  | succ b=>exact lI.get h.2 b cs ty (by simpa using hb)
 | none::l,h,b,cs,ty,hb=>by
  cases b with
  | zero=>simp at hb
  | succ b=>exact lI.get (l:=l) h b cs ty (by simpa using hb)
structure Le (m:M) (t:List T) (m':M) (t':List T):Prop where
 slots:Mj t t'
 mem:Wl m m'
 fits:(fits m'.own.length m'.rows.length t'&&lI m'.own.length m'.rows.length m'.own)=true
def Le.use {m m':M} {t t':List T} (h:Le m t m' t') {β ρ} {a:Act} {w:World} (hm:Mem W G m β ρ w) (hr:ak β ρ t a.tmps.toList):Mem W G m' (β.take m'.own.length) (ρ.take m'.rows.length) w∧ak (β.take m'.own.length) (ρ.take m'.rows.length) t' a.tmps.toList:=by
 have hf:=h.fits
 simp only [Bool.and_eq_true] at hf
 exact ⟨hm.weaken h.mem (fun b cs ty hb=>lI.get hf.2 b cs ty hb),Sx.fits.CI hf.1 (h.slots.CI hr)⟩
def cL (hE:E.Ok P) (sch:List (Nat×(Ord×List Nat))) {body:Code} (hs:aR sch body=true) {m:M} {t:List T} {k:Exit→M→List T→Tree} {ι:Type} (ok:ι→Prop) (I:ι→M×List T) (μ:ι→Nat) (i0:ι) (k0:ok i0)
  (h0:Le m t (I i0).1 (I i0).2)
  (round:∀i,ok i→(exec E sch body (I i).1 (I i).2 (fun e m' t'=>match e with | .normal=>.done (∃j,ok j∧Le m' t' (I j).1 (I j).2∧μ j<μ i) | e=>k e m' t')).aD P W G Q ds) :
  (Tree.loop body m t k).aD P W G Q ds:=by
 intro β ρ a w hm hr hd
 refine wp_loop_ghost (fun n a w=>∃i β ρ,ok i∧μ i=n∧Mem W G (I i).1 β ρ w∧ak β ρ (I i).2 a.tmps.toList∧a.defers=ds) (μ i0) ⟨i0,_,_,k0,rfl,(h0.use hm hr).1,(h0.use hm hr).2,hd⟩ ?_
 rintro n a w ⟨i,β,ρ,hi,rfl,hm,hr,hd⟩
 refine dw hE sch body hs _ _ _ _ β ρ a w ?_ hm hr hd (round i hi)
 intro e m' t' hh β ρ a w hm hr hd
 cases e with
 | normal=>
  obtain ⟨j,hj,hle,hlt⟩:=hh
  exact ⟨μ j,hlt,j,_,_,hj,rfl,(hle.use hm hr).1,(hle.use hm hr).2,hd⟩
 | _=>exact ⟨m',t',β,ρ,hm,hr,hd,hh⟩
def Mem.Oz {m:M} {β ρ} {w:World} {b:Nat} {cs cs':List T} {ty:TypeId} (h:Mem W G m β ρ w) (hb:m.own[b]?=some (some (cs,ty))) (hc:∀l,ak β ρ cs l→ak β ρ cs' l):Mem W G { m with own:=m.own.set b (some (cs',ty)) } β ρ w where
 grown:=h.grown
 nd:=h.nd
 bl:=by simpa using h.bl
 lo:=h.lo
 own b2 cs2 ty2 hb2:=by
  simp only [List.getElem?_set] at hb2
  by_cases hbb:b=b2
  ·subst hbb
   rw [if_pos rfl,if_pos (List.getElem?_eq_some_iff.1 hb).1] at hb2
   simp only [Option.some.injEq,Prod.mk.injEq] at hb2
   obtain ⟨rfl,rfl⟩:=hb2
   obtain ⟨g,l,h1,h2,h3,h4⟩:=h.own b cs ty hb
   exact ⟨g,l,h1,h2,hc l h3,h4⟩
  ·rw [if_neg hbb] at hb2
   exact h.own b2 cs2 ty2 hb2
 rl:=h.rl
 row:=h.row
 rb:=h.rb
 rows:=h.rows
 fact φ hφ g hg:=by
  obtain ⟨⟨h1,h2⟩,h3⟩:=h.fact φ hφ g hg
  refine ⟨⟨fun b2 hb2=>?_,h2⟩,h3⟩
  have h4:=h1 b2 hb2
  simp only [List.getElem?_set]
  by_cases hbb:b=b2
  ·subst hbb
   rw [hb] at h4
   cases h4
  ·rw [if_neg hbb]
   exact h4
def CW {body:Code} {m:M} {t:List T} {k:Exit→M→List T→Tree} (b d:Nat) (e:TypeId) (size:Nat) (cs:List T) (ty:TypeId) (hb:m.own[b]?=some (some (cs,ty))) (hd:cs[d]?=some (.v (.slice none 0 0)))
  (h:(Tree.loop body { m with own:=m.own.set b (some (cs.set d (.r m.rows.length),ty)),rows:=m.rows++[some ⟨e,size,0,[]⟩] } t k).aD P W G Q ds):(Tree.loop body m t k).aD P W G Q ds:=by
 intro β ρ a w hm hr hdf
 have hn:=hm.newRow e size
 refine h β _ a w (hn.Oz (cs':=cs.set d (.r m.rows.length)) hb fun l hl=>?_) (hr.ef _) hdf
 obtain ⟨y,hy,hyr⟩:=hl.2 d _ hd
 refine hl.known d hy ?_
 show (ρ++[Value.slice none 0 0])[m.rows.length]?=some y
 rw [← hm.rl,List.getElem?_append_right (Nat.le_refl _)]
 have hyr:y=.slice none 0 0:=hyr
 rw [hyr]
 simp
def gf {body:Code} {m:M} {t:List T} {k:Exit→M→List T→Tree} (d:Nat) (e:TypeId) (size:Nat) (hd:nth t d=some (.v (.slice none 0 0)))
  (h:(Tree.loop body { m with rows:=m.rows++[some ⟨e,size,0,[]⟩] } (t.set d (.r m.rows.length)) k).aD P W G Q ds):(Tree.loop body m t k).aD P W G Q ds:=by
 intro β ρ a w hm hr hdf
 refine h β _ a w (hm.newRow e size) ?_ hdf
 rw [eU] at hd
 obtain ⟨y,hy,hyr⟩:=hr.2 d _ hd
 refine (hr.ef (.slice none 0 0)).known d hy ?_
 show (ρ++[Value.slice none 0 0])[m.rows.length]?=some y
 rw [← hm.rl,List.getElem?_append_right (Nat.le_refl _)]
 simp only [Nat.sub_self,List.getElem?_cons_zero]
 exact congrArg some (Eq.symm hyr)
def AB (hE:E.Ok P) (sch:List (Nat×(Ord×List Nat))) {body rest:Code} (l:Nat) (hl:findLabel body l=some rest) (hs:aR sch body=true) (hs2:aR sch rest=true) {m:M} {t:List T} {k:Exit→M→List T→Tree} {ι:Type} (ok:ι→Prop) (I:ι→M×List T) (μ:ι→Nat)
  (N:Nat) (first:(exec E sch body m t (fun e m' t'=>match e with | .goto l'=>.done (l'=l∧∃j,ok j∧Le m' t' (I j).1 (I j).2∧μ j<N) | e=>k e m' t')).aD P W G Q ds)
  (round:∀i,ok i→(exec E sch rest (I i).1 (I i).2 (fun e m' t'=>match e with | .goto l'=>.done (l'=l∧∃j,ok j∧Le m' t' (I j).1 (I j).2∧μ j<μ i) | e=>k e m' t')).aD P W G Q ds) :
  (Tree.scope body m t k).aD P W G Q ds:=by
 intro β ρ a w hm hr hd
 let I':Nat→Act→World→Prop:=fun n a w=>∃i β ρ,ok i∧μ i=n∧Mem W G (I i).1 β ρ w∧ak β ρ (I i).2 a.tmps.toList∧a.defers=ds
 refine wp_scope_jumps l (fun a w=>∃n,I' n a w) (fun a w=>leastOf (fun n=>I' n a w)) hl ?_ ?_
 ·refine dw hE sch body hs m t _ _ β ρ a w ?_ hm hr hd first
  intro e m' t' hh β ρ a w hm hr hd
  cases e with
  | goto l'=>
   obtain ⟨e,j,hj,hle,_⟩:=hh
   exact ⟨e,μ j,j,_,_,hj,rfl,(hle.use hm hr).1,(hle.use hm hr).2,hd⟩
  | _=>exact ⟨m',t',β,ρ,hm,hr,hd,hh⟩
 ·intro a w hJ
  obtain ⟨i,β,ρ,hok,hi,hm,hr,hd⟩:=(leastOf_spec hJ).1
  refine dw hE sch rest hs2 (I i).1 (I i).2 _ _ β ρ a w ?_ hm hr hd (round i hok)
  intro e m' t' hh β ρ a w hm hr hd
  cases e with
  | goto l'=>
   obtain ⟨e,j,hj,hle,hlt⟩:=hh
   have hn:I' (μ j) a w:=⟨j,_,_,hj,rfl,(hle.use hm hr).1,(hle.use hm hr).2,hd⟩
   exact ⟨e,⟨μ j,hn⟩,Nat.lt_of_le_of_lt ((leastOf_spec ⟨μ j,hn⟩).2 (μ j) hn) (hi▸hlt)⟩
  | _=>exact ⟨m',t',β,ρ,hm,hr,hd,hh⟩
def j8 (tmps:Array Value):ResultVar→Sem Value
 | .tmp t=>pure (tmps.getD t undef)
 | .cell a t=>do loadVar t (← asAddr (tmps.getD a undef))
def jK (hE:E.Ok P) {a:Act} {β ρ} {w:World}:∀(l:List ResultVar) (m:M) (t:List T) (k:List Value→M→Tree),Mem W G m β ρ w→ak β ρ t a.tmps.toList→(gu E l m t k).aD P W G Q ds→
  ∃vs m',(k vs m').aD P W G Q ds∧Mem W G m' β ρ w∧(l.mapM (j8 a.tmps)).run P w=.ok vs w
 | [],m,t,k,hm,hr,h=>⟨[],m,h,hm,by simp⟩
 | .tmp i::l,m,t,k,hm,hr,h=>by
  have hx:=hr.ev (.tmp i)
  obtain ⟨x,m',t',h,hm',hr',hx'⟩:=cD hm hr hx h
  cases x with
  | v v=>
   obtain ⟨vs,m2,h,hm2,hrun⟩:=jK hE l m' t' _ hm' hr' h
   have hx':a.tmps.getD i undef=v:=hx'
   refine ⟨_,_,h,hm2,?_⟩
   simp [List.mapM_cons,Sem.run_bind,j8,hrun,hx']
  | _=>exact h.elim
 | .cell i ty::l,m,t,k,hm,hr,h=>by
  have hx:=hr.ev (.tmp i)
  simp only [gu] at h
  cases e:get t i with
  | p b off=>
   have hx0:Rel β ρ (get t i) (a.tmps.getD i undef):=hx
   rw [e] at h hx0
   obtain ⟨g,hg,hp⟩:=hx0
   simp only [] at h
   cases hc:m.cells b with
   | none=>rw [hc] at h;exact h.elim
   | some q=>
    obtain ⟨cs,e0⟩:=q
    rw [hc] at h
    obtain ⟨g',l0,hg',hw,hl0,h1⟩:=hm.own b cs e0 (join_eq hc)
    rw [hg] at hg'
    obtain rfl:=Option.some.inj hg'
    cases ha:lk E.agg ty with
    | none=>rw [ha] at h;exact h.elim
    | some n?=>
     cases n? with
     | none=>
      rw [ha] at h
      simp only [eU] at h
      cases hn:cs[off]? with
      | none=>rw [hn] at h;exact h.elim
      | some x=>
       rw [hn] at h
       obtain ⟨y,hy,hyr⟩:=hl0.2 off _ hn
       obtain ⟨x',m',t',h,hm',hr',hx'⟩:=cD hm hr hyr h
       cases x' with
       | v v=>
        obtain ⟨vs,m2,h,hm2,hrun⟩:=jK hE l m' t' _ hm' hr' h
        refine ⟨_,_,h,hm2,?_⟩
        obtain rfl:=hx'
        have h2:=hE.agg1 ty ha ⟨g,off,none⟩ w
        have h3:w.cell? ⟨g,off,none⟩=some y:=by simp [World.cell?,hw,hy]
        have h4:(load ⟨g,off,none⟩).run P w=.ok y w:=by simp [load,Sem.run,h3]
        simp [List.mapM_cons,Sem.run_bind,j8,hrun,hp,asAddr,h2,h4]
       | _=>exact h.elim
     | some n=>
      rw [ha] at h
      simp only [] at h
      obtain ⟨xs,m',t',h,hm',hr',hxs⟩:=bM _ _ hm hr ((hl0.drop off).take n) h
      cases hv:aH xs with
      | none=>rw [hv] at h;exact h.elim
      | some vs0=>
       rw [hv] at h
       simp only [] at h
       cases hb:(vs0.length==n) with
       | false=>rw [hb] at h;exact h.elim
       | true=>
        rw [hb] at h
        have hlen:vs0.length=n:=by simpa using hb
        obtain ⟨vs,m2,h,hm2,hrun⟩:=jK hE l m' t' _ hm' hr' h
        refine ⟨_,_,h,hm2,?_⟩
        have e1:=aE _ _ _ hv hxs
        have h2:=hE.aggN ty n ha ⟨g,off,none⟩ w vs0 hlen (fun j u hj=>by
         rw [← e1,List.getElem?_take] at hj
         split at hj
         ·rw [List.getElem?_drop] at hj
          rw [eW]
          simp [World.cell?,hw,hj]
         ·cases hj)
        simp [List.mapM_cons,Sem.run_bind,j8,hrun,hp,asAddr,h2]
  | _=>rw [e] at h;exact h.elim
def K7 (vs:List Value):(if h:vs.toArray.size=1 then vs.toArray[0] else Value.tuple vs.toArray)=YO vs:=by
 match vs with
 | []=>rfl
 | [v]=>rfl
 | v::u::l=>simp [YO]
def lT {fn:Func} {a:Act} {w:World} {vs:List Value} (h:(fn.results.toList.mapM (j8 a.tmps)).run P w=.ok vs w):(results fn a.tmps).run P w=.ok (YO vs) w:=by
 have e:results fn a.tmps=(fn.results.mapM (j8 a.tmps) >>= fun vs=>pure (if h:vs.size=1 then vs[0] else .tuple vs)):=by
  unfold results j8
  rfl
 rw [e]
 have e2:fn.results.mapM (j8 a.tmps)=List.toArray <$> fn.results.toList.mapM (j8 a.tmps):=by
  rw [← List.mapM_toArray]
 rw [e2]
 simp only [Sem.run_bind,map_eq_pure_bind,h,Result.andThen_ok,Sem.run_pure]
 rw [K7]
def nV (hE:E.Ok P) {f:FuncId} {fn:Func} {c:Code} (hf:P.funcs[f]?=some fn) (hb:fn.body=some c) (sch:List (Nat×(Ord×List Nat))) (hs:aR sch c=true) {args:List Value} {w:World} {R:Ending→World→Prop}
  (t:List T) (m:M) (ρ:List Value) (hm:Mem w G m [] ρ w) (ht:ak [] ρ t args)
  (h:(exec E sch c m (t++tX (fn.ntmps - args.length)) (finish E fn.results.toList)).wp P w G R):Calls P f (List.toArray args) w R:=by
 refine calls_of_wp hf hb ?_
 have hanys:∀(n:Nat) (l:List Value),l.length=n→ak [] ρ (tX n) l:=by
  intro n
  induction n with
  | zero=>intro l hl;rw [List.eq_nil_of_length_eq_zero hl];exact ak.nil
  | succ n ih=>
   intro l hl
   cases l with
   | nil=>simp at hl
   | cons y l=>exact ak.cons trivial (ih l (by simpa using hl))
 refine dw (Q:=R) (W:=w) (G:=G) hE sch c hs _ _ (finish E fn.results.toList) _ [] ρ _ w ?_ hm ?_ rfl h
 ·intro e m' t' hh β ρ a w' hm hr hd
  have fin:(gu E fn.results.toList m' t' (fun vs m=>.ret (YO vs) m)).wp P w G R→∃v,(results fn a.tmps).run P w'=.ok v w'∧R (.returned v) w':=by
   intro hh
   obtain ⟨vs,m2,h2,hm2,hrun⟩:=jK hE _ _ _ _ hm hr hh
   exact ⟨_,lT hrun,h2 _ _ _ hm2⟩
  cases e with
  | normal=>exact ⟨hd,fin hh⟩
  | ret=>exact ⟨hd,fin hh⟩
  | _=>exact hh.elim
 ·have:=ht.app (hanys (fn.ntmps - args.length) (List.replicate (fn.ntmps - args.length) undef) (by simp))
  simpa using this
def cv {w:World} (facts:List Fact) (hfacts:∀φ∈facts,∀g,φ.g=some g→∃o,w.heap[g]?=some o∧φ.holds o):Mem w none ⟨[],[],facts⟩ [] [] w:=by
 constructor
 ·exact ⟨rfl,rfl,rfl,Nat.le_refl _,fun _ _ _=>rfl⟩
 ·exact List.nodup_nil
 ·rfl
 ·intro g hg;cases hg
 ·intro b cs ty hb;simp at hb
 ·rfl
 ·intro i r hi;simp at hi
 ·intro v hv;cases hv
 ·intro i j v u g _ hv;simp at hv
 ·intro φ hφ g hg
  exact ⟨⟨fun b hb=>by simp at hb,fun i v hv=>by simp at hv⟩,hfacts φ hφ g hg⟩
def au (hE:E.Ok P) {f:FuncId} {fn:Func} {c:Code} (hf:P.funcs[f]?=some fn) (hb:fn.body=some c) (sch:List (Nat×(Ord×List Nat))) (hs:aR sch c=true) {args:List Value} {w:World} {R:Ending→World→Prop}
  (facts:List Fact) (hfacts:∀φ∈facts,∀g,φ.g=some g→∃o,w.heap[g]?=some o∧φ.holds o)
  (h:(exec E sch c ⟨[],[],facts⟩ (args.map T.v++tX (fn.ntmps - args.length)) (finish E fn.results.toList)).wp P w none R):Calls P f (List.toArray args) w R:=
 nV hE hf hb sch hs (args.map T.v) _ [] (cv facts hfacts) (ak.vals _) h
def Env.Ok.keeps (hE:E.Ok P):({ E with keep:=true }:Env).Ok P:=⟨hE.zero,hE.agg1,hE.aggN,hE.off,hE.row,hE.str,hE.strs,hE.ints,hE.size,hE.mixed,hE.row1,hE.meth,hE.arr⟩
def Env.Ok.turn (hE:E.Ok P):({ E with turns:=true }:Env).Ok P:=⟨hE.zero,hE.agg1,hE.aggN,hE.off,hE.row,hE.str,hE.strs,hE.ints,hE.size,hE.mixed,hE.row1,hE.meth,hE.arr⟩
def Mem.below {W:World} {m:M} {β ρ} {w:World} (h:Mem W none m β ρ w):Below W.heap.size W w:=⟨h.grown.os,h.grown.tape,h.grown.output,h.grown.size,fun k hk=>h.grown.block k hk (by simp)⟩
end
end Go.Proofs.YtdbjakibneeeiaaGreatDoor.Sx
