/- Functions that answer with a row of their own: the end of a walk keeps the row. -/
import Derived.Test.YtdbjakibneeeiaaGreatDoorKSxR
set_option linter.all false
set_option maxHeartbeats 4000000
set_option maxRecDepth 100000
namespace Go.Proofs.YtdbjakibneeeiaaGreatDoor.Sx
open Go.RowKit
section
variable {P : Program} {E : Env}
def GH (W:World) (G:Option Nat) (R:Ending→World→Prop) (n:Nat) (m:M) (t:List T):Tree:=
 match get t n with
 | .r i=>.done (∀β ρ w v,Mem W G m β ρ w→ρ[i]?=some v→R (.returned v) w)
 | .v u=>.ret u m
 | _=>.bad "a result: what"
def Cp (W:World) (G:Option Nat) (R:Ending→World→Prop) (n:Nat):Exit→M→List T→Tree
 | .normal,m,t=>GH W G R n m t
 | .ret,m,t=>GH W G R n m t
 | _,_,_=>.bad "the end"
def bH (hE:E.Ok P) {f:FuncId} {fn:Func} {c:Code} (hf:P.funcs[f]?=some fn) (hb:fn.body=some c) (sch:List (Nat×(Ord×List Nat))) (hs:aR sch c=true) {args:List Value} {w:World} {G:Option Nat} {R:Ending→World→Prop} {n:Nat}
  (hres:fn.results.toList=[.tmp n]) (t:List T) (m:M) (ρ:List Value) (hm:Mem w G m [] ρ w) (ht:ak [] ρ t args)
  (h:(exec E sch c m (t++tX (fn.ntmps - args.length)) (Cp w G R n)).wp P w G R):Calls P f (List.toArray args) w R:=by
 refine calls_of_wp hf hb ?_
 have hanys:∀(n:Nat) (l:List Value),l.length=n→ak [] ρ (tX n) l:=by
  intro n
  induction n with
  | zero=>intro l hl;rw [List.eq_nil_of_length_eq_zero hl];exact ak.nil
  | succ n ih=>
   intro l hl
   cases l with
   | nil=>simp at hl
   | cons y l=>exact ak.cons trivial (ih l (by simpa using hl))
 refine dw (Q:=R) (W:=w) (G:=G) hE sch c hs _ _ (Cp w G R n) _ [] ρ _ w ?_ hm ?_ rfl h
 ·intro e m' t' hh β ρ a w' hm hr hd
  have fin:(GH w G R n m' t').wp P w G R→∃v,(results fn a.tmps).run P w'=.ok v w'∧R (.returned v) w':=by
   intro hh
   have hx:=hr.ev (.tmp n)
   have hx:Rel β ρ (get t' n) (a.tmps.getD n undef):=hx
   have hrun:(results fn a.tmps).run P w'=.ok (a.tmps.getD n undef) w':=
    lT (vs:=[a.tmps.getD n undef]) (by rw [hres];simp [List.mapM_cons,Sem.run_bind,j8])
   refine ⟨_,hrun,?_⟩
   unfold GH at hh
   cases e:get t' n with
   | r i=>rw [e] at hh hx;exact hh _ _ _ _ hm hx
   | v u=>
    rw [e] at hh hx
    have hx:a.tmps.getD n undef=u:=hx
    rw [hx]
    exact hh _ _ _ hm
   | _=>rw [e] at hh;exact hh.elim
  cases e with
  | normal=>exact ⟨hd,fin hh⟩
  | ret=>exact ⟨hd,fin hh⟩
  | _=>exact hh.elim
 ·have:=ht.app (hanys (fn.ntmps - args.length) (List.replicate (fn.ntmps - args.length) undef) (by simp))
  simpa using this
def Mem.mine {W:World} {m:M} {β ρ} {w:World} (h:Mem W none m β ρ w) {i:Nat} {r:Row} {v:Value} (hi:m.rows[i]?=some (some r)) (hv:ρ[i]?=some v):w.ownsRow W.heap.size r.e r.size v r.n r.xs:=by
 obtain ⟨v',hv',ho⟩:=h.row i r hi
 rw [hv] at hv'
 cases hv'
 refine ⟨ho.1,?_⟩
 rcases ho.2 with h0 | ⟨g,cap,cur,rfl,_,h1⟩
 ·exact .inl h0
 ·refine .inr ⟨g,cap,cur,rfl,?_,h1⟩
  rcases (h.rb _ (List.mem_of_getElem? hv) g rfl).2.1 with hk | hk
  ·exact hk
  ·cases hk
end
end Go.Proofs.YtdbjakibneeeiaaGreatDoor.Sx
namespace Go.Proofs.YtdbjakibneeeiaaGreatDoor.Sx
open Go.RowKit
structure Rw where
 ix:Nat
 need:Nat
 d1:Nat
 look:Nat
 tk:Bool
 ap:Bool
def tb (m j:Nat):Bool:=!(Nat.beq (Nat.land (Nat.shiftRight m j) 1) 0)
def sX (m j:Nat):tb m j=m.testBit j:=by
 unfold tb Nat.testBit
 rw [show Nat.land (Nat.shiftRight m j) 1=1 &&& (m >>> j) from by rw [Nat.and_comm];rfl]
 cases h:(1 &&& (m >>> j)) with
 | zero=>rfl
 | succ n=>rfl
def sub (a m:Nat):Bool:=Nat.beq (Nat.land a m) a
def Ix (a m:Nat):sub a m=true↔∀b,a.testBit b=true→m.testBit b=true:=by
 unfold sub
 rw [Nat.beq_eq]
 constructor
 ·intro h b hb
  have:(a &&& m).testBit b=true:=by rw [show a &&& m=a from h];exact hb
  rw [Nat.testBit_and] at this
  simp at this
  exact this.2
 ·intro h
  apply Nat.eq_of_testBit_eq
  intro b
  rw [show Nat.land a m=a &&& m from rfl,Nat.testBit_and]
  cases hb:a.testBit b with
  | false=>rfl
  | true=>rw [h b hb];rfl
def iU:List Edge→Nat
 | []=>0
 | e::l=>bif Region.binds .any e then Nat.lor (Nat.pow 2 e.on) (iU l) else iU l
def mZ:List Nat→Nat
 | []=>0
 | d::l=>Nat.lor (Nat.pow 2 d) (mZ l)
def ij:∀(l:List Edge) (x:Nat),(iU l).testBit x=true↔∃e∈l,Region.binds .any e=true∧e.on=x
 | [],x=>by simp [iU]
 | e::l,x=>by
  have ih:=ij l x
  unfold iU
  cases hb:Region.binds .any e with
  | false=>simp [ih,hb]
  | true=>
   rw [cond_true,show Nat.lor (Nat.pow 2 e.on) (iU l)=2 ^ e.on ||| iU l from rfl,Nat.testBit_or,Nat.testBit_two_pow,Bool.or_eq_true,ih,decide_eq_true_eq]
   constructor
   ·rintro (h | ⟨e',h1,h2⟩)
    ·exact ⟨e,List.mem_cons_self,hb,h⟩
    ·exact ⟨e',List.mem_cons_of_mem _ h1,h2⟩
   ·rintro ⟨e',h1,h2,h3⟩
    rcases List.mem_cons.1 h1 with rfl | h1
    ·exact .inl h3
    ·exact .inr ⟨e',h1,h2,h3⟩
def nL:∀(l:List Nat) (x:Nat),(mZ l).testBit x=true↔x∈l
 | [],x=>by simp [mZ]
 | d::l,x=>by
  have ih:=nL l x
  unfold mZ
  rw [show Nat.lor (Nat.pow 2 d) (mZ l)=2 ^ d ||| mZ l from rfl,Nat.testBit_or,Nat.testBit_two_pow,Bool.or_eq_true,ih,decide_eq_true_eq,List.mem_cons]
  exact ⟨fun h=>h.imp Eq.symm id,fun h=>h.imp Eq.symm id⟩
def strict {α:Type} (n:Nat) (k:Nat→α):α:=match n with | 0=>k 0 | m+1=>k (m+1)
def mm {α:Type} (n:Nat) (k:Nat→α):strict n k=k n:=by cases n <;> rfl
def x7 {α:Type} (b:Bool) (k:Bool→α):α:=match b with | true=>k true | false=>k false
def AU {α:Type} (b:Bool) (k:Bool→α):x7 b k=k b:=by cases b <;> rfl
def uE (os:Array Oper) (o:Oper) (i:Nat):Rw:=⟨i,iU o.after.toList,(match o.dst with | some d=>d+1 | none=>0),mZ (o.looksAt os),takes true o,isApp o⟩
def TL {α:Type} (os:Array Oper) (o:Oper) (i:Nat) (k:Rw→α):α:=
 strict i fun i=>strict (iU o.after.toList) fun need=>strict (match o.dst with | some d=>d+1 | none=>0) fun d1=>strict (mZ (o.looksAt os)) fun look=>x7 (takes true o) fun tk=>x7 (isApp o) fun ap=>k ⟨i,need,d1,look,tk,ap⟩
def JI {α:Type} (os:Array Oper) (o:Oper) (i:Nat) (k:Rw→α):TL os o i k=k (uE os o i):=by simp only [TL,mm,AU,uE]
def fm (os:Array Oper):List Oper→Nat→List Rw
 | [],_=>[]
 | o::l,i=>uE os o i::fm os l (i+1)
def H6 {α:Type} (os:Array Oper):List Oper→Nat→(List Rw→α)→α
 | [],_,k=>k []
 | o::l,i,k=>TL os o i fun r=>H6 os l (i+1) fun rs=>k (r::rs)
def Cd {α:Type} (os:Array Oper):∀(l:List Oper) (i:Nat) (k:List Rw→α),H6 os l i k=k (fm os l i)
 | [],i,k=>rfl
 | o::l,i,k=>by simp only [H6,JI,Cd os l,fm]
def pS (os:Array Oper):∀(l:List Oper) (i j:Nat),(fm os l i)[j]?=(l[j]?).map fun o=>uE os o (i+j)
 | [],i,j=>by simp [fm]
 | o::l,i,0=>by simp [fm]
 | o::l,i,j+1=>by
  simp only [fm,List.getElem?_cons_succ]
  rw [pS os l (i+1) j,show i+1+j=i+(j+1) by omega]
def x5 (x y:Rw):Bool:=
 (bif Nat.beq x.d1 0 then true else !tb y.look (Nat.sub x.d1 1) && !Nat.beq y.d1 x.d1)&&(bif Nat.beq y.d1 0 then true else !tb x.look (Nat.sub y.d1 1))
def qU {os:Array Oper} {x y:Oper} {i j:Nat} (h:x5 (uE os x i) (uE os y j)=true):x.apart os y=true:=by
 unfold x5 at h
 simp only [uE] at h
 have L:∀(z:Oper) (d:Nat),tb (mZ (z.looksAt os)) d=(z.looksAt os).contains d:=fun z d=>by
  rw [sX]
  cases hc:(z.looksAt os).contains d with
  | true=>exact (nL _ _).2 (by simpa using hc)
  | false=>
   cases hm:(mZ (z.looksAt os)).testBit d with
   | false=>rfl
   | true=>have:=(nL _ _).1 hm;simp [this] at hc
 unfold Oper.apart
 cases hx:x.dst with
 | none=>
  cases hy:y.dst with
  | none=>rfl
  | some e=>
   rw [hx,hy] at h
   simpa [L,Nat.beq_eq] using h
 | some d=>
  cases hy:y.dst with
  | none=>
   rw [hx,hy] at h
   simp only [L,show Nat.beq (d+1) 0=false from rfl,cond_false,show Nat.sub (d+1) 1=d from rfl,Bool.and_eq_true,Bool.not_eq_true'] at h
   simp only [h.1.1]
   rfl
  | some e=>
   rw [hx,hy] at h
   simp only [L,show Nat.beq (d+1) 0=false from rfl,show Nat.beq (e+1) 0=false from rfl,cond_false,show Nat.sub (d+1) 1=d from rfl,show Nat.sub (e+1) 1=e from rfl,Bool.and_eq_true,Bool.not_eq_true'] at h
   obtain ⟨⟨h1,h2⟩,h3⟩:=h
   have h4:e≠d:=fun h=>by subst h;simp [Nat.beq_refl] at h2
   simp only [h1,h3,Bool.not_false,Bool.true_and,Bool.and_true,bne_iff_ne,ne_eq,Option.some.injEq]
   exact h4
def lE (i:Nat) (x:Rw) (M:Nat):List Rw→Bool
 | []=>true
 | y::l=>(Nat.beq y.ix i||(tb M y.ix||(tb y.need i||x5 x y)))&&lE i x M l
def dX (i j:Nat) (M:Nat):List Rw→Bool
 | []=>true
 | y::l=>(Nat.beq y.ix i||(Nat.beq y.ix j||(tb M y.ix || !sub y.need M)))&&dX i j M l
def j6 {i:Nat} {x:Rw} {M:Nat}:∀(l:List Rw),lE i x M l=true→∀y∈l,y.ix=i∨tb M y.ix=true∨tb y.need i=true∨x5 x y=true
 | [],_,y,h=>by simp at h
 | z::l,h,y,hy=>by
  simp only [lE,Bool.and_eq_true,Bool.or_eq_true,Nat.beq_eq] at h
  rcases List.mem_cons.1 hy with rfl | hy
  ·exact h.1
  ·exact j6 l h.2 y hy
def lu {i j M:Nat}:∀(l:List Rw),dX i j M l=true→∀y∈l,y.ix=i∨y.ix=j∨tb M y.ix=true∨sub y.need M=false
 | [],_,y,h=>by simp at h
 | z::l,h,y,hy=>by
  simp only [dX,Bool.and_eq_true,Bool.or_eq_true,Nat.beq_eq,Bool.not_eq_true'] at h
  rcases List.mem_cons.1 hy with rfl | hy
  ·exact h.1
  ·exact lu l h.2 y hy
def jc (tab:List Rw):Nat→Ord→Bool
 | M,.done=>dX tab.length tab.length M tab
 | M,.one i r=>(match nth tab i with
   | some x=>(!tb M i&&sub x.need M)&&((bif x.tk then lE i x M tab else dX i i M tab && !x.ap)&&strict (Nat.lor M (Nat.pow 2 i)) fun M=>jc tab M r)
   | none=>false)
 | M,.fork i r j s=>(match nth tab i,nth tab j with
   | some x,some y=>Nat.blt i j&&((!tb M i&&sub x.need M)&&((!tb M j&&sub y.need M)&&(dX i j M tab&&((!x.tk && !x.ap)&&((!y.tk && !y.ap)&&((strict (Nat.lor M (Nat.pow 2 i)) fun M=>jc tab M r)&&strict (Nat.lor M (Nat.pow 2 j)) fun M=>jc tab M s))))))
   | _,_=>false)
 | _,.fork3 _ _ _ _ _ _=>false
 | _,.last _ _=>false
 | M,.now i r=>(match nth tab i with
   | some x=>(!tb M i&&sub x.need M)&&((x.tk&&(lE i x M tab&&dX i i M tab))&&strict (Nat.lor M (Nat.pow 2 i)) fun M=>jc tab M r)
   | none=>false)
def DR (os:Array Oper) (l:Array Bool) (M:Nat):Prop:=l.size=os.size∧∀j,l.getD j false=tb M j
def DR.JJ {os:Array Oper} {l:Array Bool} {M:Nat} (h:DR os l M) {j:Nat} (hj:j<os.size):l.getD j true=tb M j:=by
 rw [← h.2 j,Array.getD_eq_getD_getElem?,Array.getD_eq_getD_getElem?,Array.getElem?_eq_getElem (by rw [h.1];exact hj)]
 rfl
def DR.zero (os:Array Oper):DR os (Array.replicate os.size false) 0:=by
 refine ⟨by simp,fun j=>?_⟩
 rw [sX,Array.getD_eq_getD_getElem?,Array.getElem?_replicate]
 split <;> simp
def DR.set {os:Array Oper} {l:Array Bool} {M i:Nat} (h:DR os l M) (hi:i<os.size):DR os (l.setIfInBounds i true) (Nat.lor M (Nat.pow 2 i)):=by
 refine ⟨by simp [h.1],fun j=>?_⟩
 have h2:=h.2 j
 rw [sX] at h2 ⊢
 rw [show Nat.lor M (Nat.pow 2 i)=M ||| 2 ^ i from rfl,Nat.testBit_or,Nat.testBit_two_pow,Array.getD_eq_getD_getElem?,Array.getElem?_setIfInBounds]
 rw [Array.getD_eq_getD_getElem?] at h2
 by_cases hij:i=j
 ·subst hij
  rw [if_pos rfl,if_pos (by rw [h.1];exact hi)]
  simp
 ·rw [if_neg hij,h2]
  simp [hij]
def ld {os:Array Oper} {l:Array Bool} {M i:Nat} {o:Oper} (h:DR os l M) (hi:os[i]?=some o):i∈Region.ready .any os l↔tb M i=false∧sub (iU o.after.toList) M=true:=by
 have hlt:i<os.size:=(Array.getElem?_eq_some_iff.1 hi).1
 rw [mem_ready,h.JJ hlt,Ix]
 constructor
 ·rintro ⟨h1,o',ho,h2⟩
  rw [hi] at ho
  cases ho
  refine ⟨h1,fun b hb=>?_⟩
  obtain ⟨e,he,hbi,rfl⟩:=(ij _ _).1 hb
  have:=h2 e (by simpa using he) hbi
  rwa [h.2,sX] at this
 ·rintro ⟨h1,h2⟩
  refine ⟨h1,o,hi,fun e he hbi=>?_⟩
  rw [h.2,sX]
  exact h2 _ ((ij _ _).2 ⟨e,by simpa using he,hbi,rfl⟩)
def filter_none {p:Nat→Bool}:∀(l:List Nat),(∀j∈l,p j=false)→l.filter p=[]
 | [],_=>rfl
 | x::l,h=>by rw [List.filter_cons_of_neg (by simp [h x (by simp)])];exact filter_none l fun j hj=>h j (by simp [hj])
def range'_one {p:Nat→Bool} {i:Nat}:∀(n s:Nat),s≤i→i<s+n→p i=true→(∀j,s≤j→j<s+n→p j=true→j=i)→(List.range' s n).filter p=[i]
 | 0,s,h1,h2,hp,h=>by omega
 | n+1,s,h1,h2,hp,h=>by
  rw [List.range'_succ]
  by_cases hs:s=i
  ·subst hs
   rw [List.filter_cons_of_pos hp,filter_none _ (fun j hj=>?_)]
   rw [List.mem_range'_1] at hj
   cases hq:p j with
   | false=>rfl
   | true=>have:=h j (by omega) (by omega) hq;omega
  ·have:¬ p s=true:=fun hq=>hs (h s (Nat.le_refl _) (by omega) hq)
   rw [List.filter_cons_of_neg this]
   exact range'_one n (s+1) (by omega) (by omega) hp fun j hj hj2 hq=>h j (by omega) (by omega) hq
def range_one {p:Nat→Bool} {n i:Nat} (hi:i<n) (hp:p i=true) (h:∀j,j<n→p j=true→j=i):(List.range n).filter p=[i]:=by
 rw [List.range_eq_range']
 exact range'_one n 0 (by omega) (by omega) hp fun j _ hj hq=>h j (by omega) hq
def rU {p:Nat→Bool} {i k:Nat}:∀(n s:Nat),s≤i→i<k→k<s+n→p i=true→p k=true→(∀j,s≤j→j<s+n→p j=true→j=i∨j=k)→(List.range' s n).filter p=[i,k]
 | 0,s,h1,h2,h3,hp,hk,h=>by omega
 | n+1,s,h1,h2,h3,hp,hk,h=>by
  rw [List.range'_succ]
  by_cases hs:s=i
  ·subst hs
   rw [List.filter_cons_of_pos hp,range'_one n (s+1) (i:=k) (by omega) (by omega) hk]
   intro j hj hj2 hq
   rcases h j (by omega) (by omega) hq with e | e
   ·omega
   ·exact e
  ·have:¬ p s=true:=fun hq=>by rcases h s (Nat.le_refl _) (by omega) hq with e | e <;> omega
   rw [List.filter_cons_of_neg this]
   exact rU n (s+1) (by omega) h2 (by omega) hp hk fun j hj hj2 hq=>h j (by omega) (by omega) hq
def Db {p:Nat→Bool} {n i k:Nat} (hi:i<k) (hk:k<n) (hp:p i=true) (hpk:p k=true) (h:∀j,j<n→p j=true→j=i∨j=k):(List.range n).filter p=[i,k]:=by
 rw [List.range_eq_range']
 exact rU n 0 (by omega) hi (by omega) hp hpk fun j _ hj hq=>h j (by omega) hq
def yV (os:Array Oper) (l:Array Bool):∃p:Nat→Bool,Region.ready .any os l=(List.range os.size).filter p:=⟨_,rfl⟩
def D4 (os:Array Oper):∀(l:Ord) (M:Nat) (listed:Array Bool),DR os listed M→jc (fm os os.toList 0) M l=true→dr os listed l=true:=by
 have G:∀(i:Nat) (x:Rw),nth (fm os os.toList 0) i=some x→∃o,os[i]?=some o∧x=uE os o i:=by
  intro i x hx
  rw [eU,pS] at hx
  cases ho:os.toList[i]? with
  | none=>rw [ho] at hx;cases hx
  | some o=>rw [ho] at hx;simp at hx;exact ⟨o,by simpa using ho,hx.symm⟩
 have G2:∀(i:Nat) (o:Oper),os[i]?=some o→uE os o i∈fm os os.toList 0:=by
  intro i o ho
  refine List.mem_of_getElem? (i:=i) ?_
  rw [pS,show os.toList[i]?=some o by simpa using ho]
  simp
 have RD:∀(M:Nat) (listed:Array Bool) (i k:Nat),DR os listed M→dX i k M (fm os os.toList 0)=true→∀j,j∈Region.ready .any os listed→j=i∨j=k:=by
  intro M listed i k hL hs j hj
  obtain ⟨_,oj,hoj,_⟩:=mem_ready.1 hj
  have h1:=(ld hL hoj).1 hj
  rcases lu _ hs _ (G2 j oj hoj) with h | h | h | h
  ·exact .inl h
  ·exact .inr h
  ·have h:tb M j=true:=h
   rw [h1.1] at h;cases h
  ·have h:sub (iU oj.after.toList) M=false:=h
   rw [h1.2] at h;cases h
 have LT:∀(listed:Array Bool) (j:Nat),j∈Region.ready .any os listed→j<os.size:=by
  intro listed j hj
  obtain ⟨_,oj,hoj,_⟩:=mem_ready.1 hj
  exact (Array.getElem?_eq_some_iff.1 hoj).1
 have R1:∀(M:Nat) (listed:Array Bool) (i:Nat) (o:Oper),DR os listed M→os[i]?=some o→tb M i=false→sub (iU o.after.toList) M=true→dX i i M (fm os os.toList 0)=true→Region.ready .any os listed=[i]:=by
  intro M listed i o hL ho h1 h2 hs
  obtain ⟨p,hp⟩:=yV os listed
  have hm:=(ld hL ho).2 ⟨h1,h2⟩
  have hR:=RD M listed i i hL hs
  rw [hp] at hm hR ⊢
  rw [List.mem_filter,List.mem_range] at hm
  refine range_one hm.1 hm.2 fun j hj hpj=>?_
  rcases hR j (List.mem_filter.2 ⟨List.mem_range.2 hj,hpj⟩) with h | h <;> exact h
 intro l
 induction l with
 | done=>
  intro M listed hL hv
  simp only [dr,List.isEmpty_iff]
  simp only [jc] at hv
  cases hr:Region.ready .any os listed with
  | nil=>rfl
  | cons j js=>
   have hj:j∈Region.ready .any os listed:=by rw [hr];simp
   have hlt:=LT listed j hj
   have hlen:(fm os os.toList 0).length=os.size:=by
    have T:∀(l:List Oper) (i:Nat),(fm os l i).length=l.length:=by
     intro l
     induction l with
     | nil=>intro i;rfl
     | cons o l ih=>intro i;simp [fm,ih]
    rw [T];simp
   rcases RD M listed _ _ hL hv j hj with h | h <;> omega
 | last i r ih=>intro M listed hL hv;cases hv
 | now i r ih=>
  intro M listed hL hv
  simp only [jc] at hv
  cases hx:nth (fm os os.toList 0) i with
  | none=>rw [hx] at hv;cases hv
  | some x=>
   obtain ⟨o,ho,rfl⟩:=G i x hx
   have hlt:i<os.size:=(Array.getElem?_eq_some_iff.1 ho).1
   rw [hx] at hv
   simp only [mm,Bool.and_eq_true,Bool.not_eq_true'] at hv
   obtain ⟨⟨h1,h2⟩,⟨h3,h5,h6⟩,h4⟩:=hv
   have h2:sub (iU o.after.toList) M=true:=h2
   unfold dr
   rw [ih _ _ (hL.set hlt) h4,Bool.and_true,ho]
   simp only []
   rw [show takes true o=true from h3,R1 M listed i o hL ho h1 h2 h6]
   simp only [Bool.true_and,beq_self_eq_true,Bool.and_true]
   unfold Region.free
   rw [ho]
   simp only [List.all_eq_true,List.mem_range]
   intro j hj
   have hoj:os[j]?=some os[j]:=Array.getElem?_eq_getElem hj
   rw [hoj,hL.JJ hj]
   simp only [Bool.or_eq_true,beq_iff_eq]
   rcases j6 _ h5 _ (G2 j _ hoj) with h | h | h | h
   ·exact .inl (.inl h)
   ·exact .inl (.inr h)
   ·refine .inr (.inl ?_)
    rw [sX] at h
    obtain ⟨e,he,hb,heq⟩:=(ij _ _).1 h
    rw [Array.any_eq_true']
    exact ⟨e,by simpa using he,by simp [hb,heq]⟩
   ·exact .inr (.inr (qU h))
 | one i r ih=>
  intro M listed hL hv
  simp only [jc] at hv
  cases hx:nth (fm os os.toList 0) i with
  | none=>rw [hx] at hv;cases hv
  | some x=>
   obtain ⟨o,ho,rfl⟩:=G i x hx
   have hlt:i<os.size:=(Array.getElem?_eq_some_iff.1 ho).1
   rw [hx] at hv
   simp only [mm,Bool.and_eq_true,Bool.not_eq_true'] at hv
   obtain ⟨⟨h1,h2⟩,h3,h4⟩:=hv
   have h2:sub (iU o.after.toList) M=true:=h2
   have hm:=(ld hL ho).2 ⟨h1,h2⟩
   unfold dr
   rw [ih _ _ (hL.set hlt) h4,Bool.and_true,ho]
   simp only []
   cases ht:takes true o with
   | true=>
    rw [show (uE os o i).tk=true from ht,cond_true] at h3
    rw [cond_true,Bool.and_eq_true]
    refine ⟨?_,by simpa using hm⟩
    unfold Region.free
    rw [ho]
    simp only [List.all_eq_true,List.mem_range]
    intro j hj
    have hoj:os[j]?=some os[j]:=Array.getElem?_eq_getElem hj
    rw [hoj,hL.JJ hj]
    simp only [Bool.or_eq_true,beq_iff_eq]
    rcases j6 _ h3 _ (G2 j _ hoj) with h | h | h | h
    ·exact .inl (.inl h)
    ·exact .inl (.inr h)
    ·refine .inr (.inl ?_)
     rw [sX] at h
     obtain ⟨e,he,hb,heq⟩:=(ij _ _).1 h
     rw [Array.any_eq_true']
     exact ⟨e,by simpa using he,by simp [hb,heq]⟩
    ·exact .inr (.inr (qU h))
   | false=>
    rw [show (uE os o i).tk=false from ht,cond_false] at h3
    simp only [Bool.and_eq_true,Bool.not_eq_true'] at h3
    rw [cond_false,R1 M listed i o hL ho h1 h2 h3.1,show isApp o=false from h3.2]
    simp
 | fork3 i r j s l u ih1 ih2 ih3=>intro M listed hL hv;cases hv
 | fork i r j s ihr ihs=>
  intro M listed hL hv
  simp only [jc] at hv
  cases hx:nth (fm os os.toList 0) i with
  | none=>rw [hx] at hv;cases hv
  | some x=>
  cases hy:nth (fm os os.toList 0) j with
  | none=>rw [hx,hy] at hv;cases hv
  | some y=>
   obtain ⟨o,ho,rfl⟩:=G i x hx
   obtain ⟨p,hp,rfl⟩:=G j y hy
   have hlt:i<os.size:=(Array.getElem?_eq_some_iff.1 ho).1
   have hlj:j<os.size:=(Array.getElem?_eq_some_iff.1 hp).1
   rw [hx,hy] at hv
   simp only [mm,Bool.and_eq_true,Bool.not_eq_true',Nat.blt_eq] at hv
   obtain ⟨hij,⟨h1,h2⟩,⟨h3,h4⟩,hs,⟨h5,h6⟩,⟨h7,h8⟩,h9,h10⟩:=hv
   unfold dr
   rw [ihr _ _ (hL.set hlt) h9,ihs _ _ (hL.set hlj) h10,Bool.and_true,Bool.and_true,ho,hp]
   obtain ⟨q,hq⟩:=yV os listed
   have hmi:=(ld hL ho).2 ⟨h1,h2⟩
   have hmj:=(ld hL hp).2 ⟨h3,h4⟩
   have hR:=RD M listed i j hL hs
   rw [hq] at hmi hmj hR ⊢
   rw [List.mem_filter,List.mem_range] at hmi hmj
   rw [Db hij hmj.1 hmi.2 hmj.2 (fun k hk hpk=>hR k (List.mem_filter.2 ⟨List.mem_range.2 hk,hpk⟩))]
   simp only [show takes true o=false from h5,show isApp o=false from h6,show takes true p=false from h7,show isApp p=false from h8]
   simp
def tM:List Oper→Bool
 | []=>true
 | o::l=>(match o.op with | .select ..=>false | _=>true)&&tM l
def CU (os:Array Oper) (h:tM os.toList=true):Region.noSelect os=true:=by
 unfold Region.noSelect
 rw [Array.all_eq_true_iff_forall_mem]
 intro o ho
 have K:∀(l:List Oper),tM l=true→∀o∈l,(match o.op with | .select ..=>false | _=>true)=true:=by
  intro l
  induction l with
  | nil=>intro _ o ho;simp at ho
  | cons x l ih=>
   intro h o ho
   simp only [tM,Bool.and_eq_true] at h
   rcases List.mem_cons.1 ho with rfl | ho
   ·exact h.1
   ·exact ih h.2 o ho
 exact K _ h o (by simpa using ho)
def wZ:Ord→Bool
 | .done=>false
 | .one _ r=>wZ r
 | .fork _ _ _ _=>false
 | .fork3 _ _ _ _ _ _=>false
 | .last _ _=>true
 | .now _ _=>false
def fB (sch:List (Nat×(Ord×List Nat))):Code→Bool
 | .region id os draw=>match draw with
  | false=>true
  | true=>match lk sch id with
   | some (l,_)=>(bif wZ l then Region.noSelect os&&eF os (jX l) (Array.replicate os.size false) l else tM os.toList&&H6 os os.toList 0 fun tab=>jc tab 0 l)&&Nat.ble l.len os.size
   | none=>true
 | .seq a b=>fB sch a&&fB sch b
 | .cond _ a b=>fB sch a&&fB sch b
 | .block _ a=>fB sch a
 | .loop a=>fB sch a
 | .scope a=>fB sch a
 | _=>true
def aQ (sch:List (Nat×(Ord×List Nat))):∀(c:Code),fB sch c=true→aR sch c=true:=by
 intro c
 induction c with
 | region id os draw=>
  intro h
  cases draw with
  | false=>rfl
  | true=>
   simp only [fB] at h
   simp only [aR]
   cases hl:lk sch id with
   | none=>rfl
   | some q=>
    obtain ⟨l,X⟩:=q
    rw [hl] at h
    simp only [Bool.and_eq_true] at h ⊢
    refine ⟨?_,h.2⟩
    cases hh:wZ l with
    | true=>
     rw [hh,cond_true] at h
     simp only [Bool.and_eq_true] at h
     exact ⟨h.1.1,by simp [h.1.2]⟩
    | false=>
     rw [hh,cond_false] at h
     simp only [Bool.and_eq_true,Cd] at h
     exact ⟨CU os h.1.1,by simp [D4 os l 0 _ (DR.zero os) h.1.2]⟩
 | seq a b iha ihb=>intro h;simp only [fB,aR,Bool.and_eq_true] at h ⊢;exact ⟨iha h.1,ihb h.2⟩
 | cond c a b iha ihb=>intro h;simp only [fB,aR,Bool.and_eq_true] at h ⊢;exact ⟨iha h.1,ihb h.2⟩
 | block i a ih=>intro h;simp only [fB,aR] at h ⊢;exact ih h
 | loop a ih=>intro h;simp only [fB,aR] at h ⊢;exact ih h
 | scope a ih=>intro h;simp only [fB,aR] at h ⊢;exact ih h
 | _=>intro _;rfl
end Go.Proofs.YtdbjakibneeeiaaGreatDoor.Sx
namespace Go.Proofs.YtdbjakibneeeiaaGreatDoor.Sx
open Go.RowKit
section
variable {P : Program} {W : World} {G : Option Nat} {Q : Ending → World → Prop} {ds : List Deferred}
def Es {β ρ} {t:List T} {a:Act} (hr:ak β ρ t a.tmps.toList) (args:Array Operand):ak β ρ (args.toList.map (ev t)) (args.toList.map a.eval):=by
 refine ⟨by simp,fun i x hx=>?_⟩
 rw [List.getElem?_map] at hx ⊢
 cases hi:args.toList[i]? with
 | none=>rw [hi] at hx;cases hx
 | some q=>rw [hi] at hx;cases hx;exact ⟨_,rfl,hr.ev q⟩
def Zu {o:Oper} {m:M} {t:List T} {k:M→List T→T→Tree} {f:Operand} {g:FuncId} {first:Array Value} {args:Array Operand} {tys:Array TypeId} {l:List Value}
  (ho:o.op=.call ⟨.value f,args,tys⟩) (hf:ev t f=.v (.func (.func g) first #[])) (hv:aH (args.toList.map (ev t))=some l) (hc:aP P g=true)
  (hC:∀β ρ w,Mem W G m β ρ w→Calls P g (first++List.toArray l) w fun e w'=>∃v m',e=.returned v∧Mem W G m' β ρ w'∧(k m' t (.v v)).aD P W G Q ds):(Tree.op none o m t k).aD P W G Q ds:=by
 intro β ρ a w hm hr K Q' hK
 obtain ⟨dst,op,ty',pos,after,guard⟩:=o
 simp only at ho
 subst ho
 have hx:=hr.ev f
 rw [hf] at hx
 have hx:a.eval f=.func (.func g) first #[]:=hx
 have e1:=aE _ _ _ hv (Es hr args)
 have hC:=hC β ρ w hm
 unfold aP at hc
 cases hfn:P.funcs[g]? with
 | none=>rw [hfn] at hc;cases hc
 | some fn=>
  rw [hfn] at hc
  simp only [Bool.and_eq_true,Bool.not_eq_true',Option.isSome_iff_ne_none] at hc
  unfold Oper.wp
  have:(execOp a.eval ⟨dst,.call ⟨.value f,args,tys⟩,ty',pos,after,guard⟩).run P w=.ok (.enter g (first++List.toArray l)) w:=by
   have hb:fn.body≠none:=hc.2
   have hn:¬ fn.name = "runtime.NumGoroutine":=by simpa using hc.1
   have e2:args.map a.eval=List.toArray l:=by rw [← e1];cases args;simp
   simp [execOp,resolve,Deferred.ofValue,hx,invoke,callFunc,hfn,hn,hb,e2]
  rw [this]
  refine hC.mono fun e w' hw'=>?_
  obtain ⟨v,m',rfl,hm',hk⟩:=hw'
  exact hK m' t (.v v) β ρ w' v hk hm' hr rfl (fun F h=>by cases h)
def Mem.turn {m:M} {β ρ} {w w':World} (h:Mem W G m β ρ w) {φ:Fact} {g:Nat} (hφ:φ∈m.facts) (hg:φ.g=some g) (hW:W.heap.size≤g∨some g=G) (k:w.grownBy w' (some g)) {fs:List Fact}
  (hfs:∀ψ∈fs,(ψ∈m.facts∧ψ.g≠some g)∨(ψ.g=some g∧∃o,w'.heap[g]?=some o∧ψ.holds o)):Mem W G { m with facts:=fs } β ρ w':=by
 obtain ⟨⟨hA,hB⟩,_⟩:=h.fact φ hφ g hg
 constructor
 ·exact gZ h.grown k hW
 ·exact h.nd
 ·exact h.bl
 ·exact fun x hx=>⟨(h.lo x hx).1,Nat.lt_of_lt_of_le (h.lo x hx).2 k.size⟩
 ·intro b cs ty hb
  obtain ⟨g2,l,hg2,hw,hr,h1⟩:=h.own b cs ty hb
  refine ⟨g2,l,hg2,(k.block g2 (h.lo g2 (List.mem_of_getElem? hg2)).2 (fun e=>?_)).trans hw,hr,h1⟩
  cases e
  have:=hA b hg2
  rw [show m.own[b]?=some (some (cs,ty)) from hb] at this
  cases this
 ·exact h.rl
 ·intro i r hi
  obtain ⟨v,hv,ho⟩:=h.row i r hi
  refine ⟨v,hv,ho.kept k ?_⟩
  cases hob:v.ownBlock with
  | none=>exact .inl rfl
  | some g2=>
   refine .inr (fun e=>?_)
   cases e
   have:=hB i v hv hob
   rw [show m.rows[i]?=some (some r) from hi] at this
   cases this
 ·exact fun v hv g2 hg2=>⟨(h.rb v hv g2 hg2).1,(h.rb v hv g2 hg2).2.1,Nat.lt_of_lt_of_le (h.rb v hv g2 hg2).2.2 k.size⟩
 ·exact h.rows
 ·intro ψ hψ g2 hg2
  rcases hfs ψ hψ with ⟨h1,h2⟩ | ⟨h1,o,ho,hp⟩
  ·obtain ⟨h3,o,ho,hp⟩:=h.fact ψ h1 g2 hg2
   refine ⟨h3,o,(k.block g2 (Array.getElem?_eq_some_iff.1 ho).1 (fun e=>?_)).trans ho,hp⟩
   rw [hg2] at h2
   exact h2 e
  ·rw [h1] at hg2
   cases hg2
   exact ⟨⟨hA,hB⟩,o,ho,hp⟩
def I4 {q:Option (List Fact)} {o:Oper} {m:M} {t:List T} {k:M→List T→T→Tree} {f:FuncId} {args:Array Operand} {tys:Array TypeId} {l:List Value} {φ:Fact} {g:Nat}
  (ho:o.op=.call ⟨.value (.func f),args,tys⟩) (hv:aH (args.toList.map (ev t))=some l) (hc:aP P f=true) (hφ:φ∈m.facts) (hg:φ.g=some g) (hW:W.heap.size≤g∨some g=G) (hq:∀F,q=some F→∃ψ∈F,ψ.g=some g)
  (hC:∀β ρ w,Mem W G m β ρ w→Calls P f (List.toArray l) w fun e w'=>∃v fs,e=.returned v∧w.grownBy w' (some g)∧(∀ψ∈fs,(ψ∈m.facts∧ψ.g≠some g)∨(ψ.g=some g∧∃o,w'.heap[g]?=some o∧ψ.holds o))∧(k { m with facts:=fs } t (.v v)).aD P W G Q ds):(Tree.op q o m t k).aD P W G Q ds:=by
 intro β ρ a w hm hr K Q' hK
 obtain ⟨dst,op,ty',pos,after,guard⟩:=o
 simp only at ho
 subst ho
 have e1:=aE _ _ _ hv (Es hr args)
 have hC:=hC β ρ w hm
 unfold aP at hc
 cases hfn:P.funcs[f]? with
 | none=>rw [hfn] at hc;cases hc
 | some fn=>
  rw [hfn] at hc
  simp only [Bool.and_eq_true,Bool.not_eq_true',Option.isSome_iff_ne_none] at hc
  unfold Oper.wp
  have:(execOp a.eval ⟨dst,.call ⟨.value (.func f),args,tys⟩,ty',pos,after,guard⟩).run P w=.ok (.enter f (List.toArray l)) w:=by
   have hb:fn.body≠none:=hc.2
   have hn:¬ fn.name = "runtime.NumGoroutine":=by simpa using hc.1
   have e2:args.map a.eval=List.toArray l:=by rw [← e1];cases args;simp
   simp [execOp,resolve,Deferred.ofValue,Act.eval,invoke,callFunc,hfn,hn,hb,e2]
  rw [this]
  refine hC.mono fun e w' hw'=>?_
  obtain ⟨v,fs,rfl,hgr,hfs,hk⟩:=hw'
  refine hK _ t (.v v) β ρ w' v hk (hm.turn hφ hg hW hgr hfs) hr rfl (fun F h=>⟨rfl,rfl,?_⟩)
  obtain ⟨ψ,hψ,hψg⟩:=hq F h
  exact .inr ⟨ψ,hψ,g,hψg,hW,hgr⟩
def AZ {w:World} {G:Option Nat} (facts:List Fact) (hfacts:∀φ∈facts,∀g,φ.g=some g→∃o,w.heap[g]?=some o∧φ.holds o):Mem w G ⟨[],[],facts⟩ [] [] w:=by
 constructor
 ·exact ⟨rfl,rfl,rfl,Nat.le_refl _,fun _ _ _=>rfl⟩
 ·exact List.nodup_nil
 ·rfl
 ·intro g hg;cases hg
 ·intro b cs ty hb;simp at hb
 ·rfl
 ·intro i r hi;simp at hi
 ·intro v hv;cases hv
 ·intro i j v u g _ hv;simp at hv
 ·intro φ hφ g hg
  exact ⟨⟨fun b hb=>by simp at hb,fun i v hv=>by simp at hv⟩,hfacts φ hφ g hg⟩
def uO {E:Env} (hE:E.Ok P) {f:FuncId} {fn:Func} {c:Code} (hf:P.funcs[f]?=some fn) (hb:fn.body=some c) (sch:List (Nat×(Ord×List Nat))) (hs:aR sch c=true) {args:List Value} {w:World} {R:Ending→World→Prop}
  (G:Option Nat) (facts:List Fact) (hfacts:∀φ∈facts,∀g,φ.g=some g→∃o,w.heap[g]?=some o∧φ.holds o)
  (h:(exec E sch c ⟨[],[],facts⟩ (args.map T.v++tX (fn.ntmps - args.length)) (finish E fn.results.toList)).wp P w G R):Calls P f (List.toArray args) w R:=
 nV (G:=G) hE hf hb sch hs (args.map T.v) _ [] (AZ facts hfacts) (ak.vals _) h
def Env.Ok.a0f {E:Env} (hE:E.Ok P):({ E with soon:=true }:Env).Ok P:=⟨hE.zero,hE.agg1,hE.aggN,hE.off,hE.row,hE.str,hE.strs,hE.ints,hE.size,hE.mixed,hE.row1,hE.meth,hE.arr⟩
def Env.Ok.FN {E:Env} (hE:E.Ok P) (n:Nat):({ E with lead:=n }:Env).Ok P:=⟨hE.zero,hE.agg1,hE.aggN,hE.off,hE.row,hE.str,hE.strs,hE.ints,hE.size,hE.mixed,hE.row1,hE.meth,hE.arr⟩
def Env.Ok.open_ {E:Env} (hE:E.Ok P) (l:List FuncId) (b:Bool):({ E with opens:=l,bare:=b }:Env).Ok P:=⟨hE.zero,hE.agg1,hE.aggN,hE.off,hE.row,hE.str,hE.strs,hE.ints,hE.size,hE.mixed,hE.row1,hE.meth,hE.arr⟩
end
end Go.Proofs.YtdbjakibneeeiaaGreatDoor.Sx
namespace Go.Proofs.YtdbjakibneeeiaaGreatDoor.Sx
open Go.RowKit
def Qi (i:Nat):T→T
 | .p b o=>if b=i then .any else .p (if b<i then b else b - 1) o
 | .s b n=>if b=i then .any else .s (if b<i then b else b - 1) n
 | .fn _ _=>.any
 | x=>x
def Fl {β:List Nat} {b i g:Nat} (h:β[b]?=some g) (hb:b≠i):(β.eraseIdx i)[if b<i then b else b - 1]?=some g:=by
 rw [List.getElem?_eraseIdx]
 by_cases hc:b<i
 ·rw [if_pos hc,if_pos hc];exact h
 ·rw [if_neg hc,if_neg (by omega),show b - 1+1=b by omega];exact h
def Rel.sh {β:List Nat} {ρ:List Value} (i:Nat) {x:T} {y:Value} (h:Rel β ρ x y):Rel (β.eraseIdx i) ρ (Qi i x) y:=by
 cases x with
 | p b o=>
  show Rel _ _ (if b=i then T.any else T.p (if b<i then b else b - 1) o) y
  by_cases hb:b=i
  ·rw [if_pos hb];trivial
  ·rw [if_neg hb]
   obtain ⟨g,hg,rfl⟩:=h
   exact ⟨g,Fl hg hb,rfl⟩
 | s b n=>
  show Rel _ _ (if b=i then T.any else T.s (if b<i then b else b - 1) n) y
  by_cases hb:b=i
  ·rw [if_pos hb];trivial
  ·rw [if_neg hb]
   obtain ⟨g,hg,rfl⟩:=h
   exact ⟨g,Fl hg hb,rfl⟩
 | fn f caps=>trivial
 | any=>trivial
 | v x=>exact h
 | r k=>exact h
 | q k o=>exact h
 | w k lo size=>exact h
def ak.sh {β:List Nat} {ρ:List Value} (i:Nat) {t:List T} {l:List Value} (h:ak β ρ t l):ak (β.eraseIdx i) ρ (t.map (Qi i)) l:=by
 refine ⟨by simp [h.1],fun j z hz=>?_⟩
 rw [List.getElem?_map] at hz
 cases hj:t[j]? with
 | none=>rw [hj] at hz;cases hz
 | some x=>
  rw [hj] at hz
  obtain ⟨u,hu,hr⟩:=h.2 j x hj
  cases hz
  exact ⟨u,hu,hr.sh i⟩
def M.erase (m:M) (i:Nat):M:=⟨(m.own.eraseIdx i).map fun q=>q.map fun q=>(q.1.map (Qi i),q.2),m.rows,m.facts⟩
def Mem.erase {W:World} {G:Option Nat} {m:M} {β ρ} {w:World} (h:Mem W G m β ρ w) (i:Nat):Mem W G (m.erase i) (β.eraseIdx i) ρ w where
 grown:=h.grown
 nd:=h.nd.sublist (List.eraseIdx_sublist β i)
 bl:=by simp [M.erase,List.length_eraseIdx,h.bl]
 lo g hg:=h.lo g (List.mem_of_mem_eraseIdx hg)
 own b cs ty hb:=by
  simp only [M.erase,List.getElem?_map] at hb
  cases ho:(m.own.eraseIdx i)[b]? with
  | none=>rw [ho] at hb;cases hb
  | some q=>
   rw [ho] at hb
   cases q with
   | none=>cases hb
   | some q=>
    obtain ⟨cs0,e⟩:=q
    simp at hb
    obtain ⟨rfl,rfl⟩:=hb
    rw [List.getElem?_eraseIdx] at ho
    by_cases hc:b<i
    ·rw [if_pos hc] at ho
     obtain ⟨g,l,hg,hw,hr,h1⟩:=h.own _ cs0 e ho
     exact ⟨g,l,by rw [List.getElem?_eraseIdx,if_pos hc];exact hg,hw,hr.sh i,h1⟩
    ·rw [if_neg hc] at ho
     obtain ⟨g,l,hg,hw,hr,h1⟩:=h.own _ cs0 e ho
     exact ⟨g,l,by rw [List.getElem?_eraseIdx,if_neg hc];exact hg,hw,hr.sh i,h1⟩
 rl:=h.rl
 row:=h.row
 rb v hv g hg:=⟨fun hm=>(h.rb v hv g hg).1 (List.mem_of_mem_eraseIdx hm),(h.rb v hv g hg).2⟩
 rows:=h.rows
 fact φ hφ g hg:=by
  obtain ⟨⟨h1,h2⟩,h3⟩:=h.fact φ hφ g hg
  refine ⟨⟨fun b hb=>?_,h2⟩,h3⟩
  rw [List.getElem?_eraseIdx] at hb
  have h5:((m.own.eraseIdx i)[b]?).join=none:=by
   rw [List.getElem?_eraseIdx]
   by_cases hc:b<i
   ·rw [if_pos hc] at hb ⊢;exact h1 b hb
   ·rw [if_neg hc] at hb ⊢;exact h1 _ hb
  simp only [M.erase,List.getElem?_map]
  generalize (m.own.eraseIdx i)[b]?=q at h5
  cases q with
  | none=>rfl
  | some q=>
   cases q with
   | none=>rfl
   | some q=>cases h5
def M.erases (m:M):List Nat→M
 | []=>m
 | i::l=>(m.erase i).erases l
def Kn (t:List T):List Nat→List T
 | []=>t
 | i::l=>Kn (t.map (Qi i)) l
def Ba (β:List Nat):List Nat→List Nat
 | []=>β
 | i::l=>Ba (β.eraseIdx i) l
def Mem.erases {W:World} {G:Option Nat} {w:World} {ρ:List Value}:∀(is:List Nat) {m:M} {β:List Nat},Mem W G m β ρ w→Mem W G (m.erases is) (Ba β is) ρ w
 | [],m,β,h=>h
 | i::is,m,β,h=>Mem.erases is (h.erase i)
def ak.oV {ρ:List Value} {l:List Value}:∀(is:List Nat) {β:List Nat} {t:List T},ak β ρ t l→ak (Ba β is) ρ (Kn t is) l
 | [],β,t,h=>h
 | i::is,β,t,h=>ak.oV is (h.sh i)
section
variable {P : Program} {W : World} {G : Option Nat} {Q : Ending → World → Prop} {ds : List Deferred}
def eV {E:Env} (hE:E.Ok P) (sch:List (Nat×(Ord×List Nat))) {body:Code} (hs:aR sch body=true) {m:M} {t:List T} {k:Exit→M→List T→Tree} (i0b:List Nat) {ι:Type} (ok:ι→Prop) (I:ι→M×List T) (μ:ι→Nat) (i0:ι) (k0:ok i0)
  (h0:Le m t (I i0).1 (I i0).2)
  (round:∀i,ok i→(exec E sch body (I i).1 (I i).2 (fun e m' t'=>match e with | .normal=>.done (∃j,ok j∧Le (m'.erases i0b) (Kn t' i0b) (I j).1 (I j).2∧μ j<μ i) | e=>k e m' t')).aD P W G Q ds) :
  (Tree.loop body m t k).aD P W G Q ds:=by
 intro β ρ a w hm hr hd
 refine wp_loop_ghost (fun n a w=>∃i β ρ,ok i∧μ i=n∧Mem W G (I i).1 β ρ w∧ak β ρ (I i).2 a.tmps.toList∧a.defers=ds) (μ i0) ⟨i0,_,_,k0,rfl,(h0.use hm hr).1,(h0.use hm hr).2,hd⟩ ?_
 rintro n a w ⟨i,β,ρ,hi,rfl,hm,hr,hd⟩
 refine dw hE sch body hs _ _ _ _ β ρ a w ?_ hm hr hd (round i hi)
 intro e m' t' hh β ρ a w hm hr hd
 cases e with
 | normal=>
  obtain ⟨j,hj,hle,hlt⟩:=hh
  exact ⟨μ j,hlt,j,_,_,hj,rfl,(hle.use (hm.erases i0b) (hr.oV i0b)).1,(hle.use (hm.erases i0b) (hr.oV i0b)).2,hd⟩
 | _=>exact ⟨m',t',β,ρ,hm,hr,hd,hh⟩
end
end Go.Proofs.YtdbjakibneeeiaaGreatDoor.Sx
namespace Go.Proofs.YtdbjakibneeeiaaGreatDoor.Sx
open Go.RowKit
section
variable {P : Program} {W : World} {G : Option Nat} {Q : Ending → World → Prop} {ds : List Deferred}
def tV {β ρ}:∀{l:List Value} {vs:List Value},ak β ρ (l.map T.v) vs→vs=l
 | [],vs,h=>List.eq_nil_of_length_eq_zero h.1
 | x::l,vs,h=>by
  cases vs with
  | nil=>have:=h.1;simp at this
  | cons y vs=>
   obtain ⟨y',hy,hyr⟩:=h.2 0 _ rfl
   simp at hy
   subst hy
   have:ak β ρ (l.map T.v) vs:=⟨by have:=h.1;simpa using this,fun i x hx=>by obtain ⟨u,hu,hur⟩:=h.2 (i+1) x (by simpa using hx);exact ⟨u,by simpa using hu,hur⟩⟩
   rw [tV this]
   have e:y=x:=hyr
   rw [e]
def gB (v:Value) (e:TypeId) (size n:Nat) (xs:List Value):Fact:=⟨v.ownBlock,fun o=>∃cap cur,v=.slice (some ⟨(v.ownBlock).getD 0,0,none⟩) n cap∧o=.cells cur e (0,0)∧n≤cap∧cap≤maxLen∧cur.size=cap*size∧cur.toList.take (n*size)=xs⟩
def TV (W:World) (v:Value) (n:Nat):Prop:=(v=.slice none 0 0∧n=0)∨∃g cap,v=.slice (some ⟨g,0,none⟩) n cap∧W.heap.size≤g
def M3 {W:World}:TV W (.slice none 0 0) 0:=.inl ⟨rfl,rfl⟩
def iP {m:M} {β ρ} {w:World} {v:Value} {e:TypeId} {size n:Nat} {xs:List Value} (h:Mem W G m β ρ w) (hF:gB v e size n xs∈m.facts) (hV:TV W v n) (hl:xs.length=n*size):w.ownsRow W.heap.size e size v n xs:=by
 refine ⟨hl,?_⟩
 rcases hV with hV | ⟨g,cap,rfl,hg⟩
 ·exact .inl hV
 ·obtain ⟨_,o,ho,cap',cur,h1,rfl,h2,h3,h4,h5⟩:=h.fact _ hF g rfl
  obtain rfl:cap=cap':=by simpa [Value.ownBlock] using h1
  exact .inr ⟨g,cap,cur,rfl,hg,ho,h2,h3,h4,h5⟩
def qW {w:World} {base:Nat} {v:Value} {e:TypeId} {size n:Nat} {xs:List Value} (h:w.ownsRow base e size v n xs):∀g,(gB v e size n xs).g=some g→base≤g∧∃o,w.heap[g]?=some o∧(gB v e size n xs).holds o:=by
 intro g hg
 rcases h.2 with ⟨rfl,_⟩ | ⟨g',cap,cur,rfl,h1,h2,h3,h4,h5,h6⟩
 ·cases hg
 ·have e1:g'=g:=by simpa [gB,Value.ownBlock] using hg
  subst e1
  exact ⟨h1,_,h2,cap,cur,rfl,rfl,h3,h4,h5,h6⟩
def vc {w:World} {v:Value} {e:TypeId} {size n:Nat} {xs:List Value} (h:w.ownsRow W.heap.size e size v n xs):TV W v n:=by
 rcases h.2 with h | ⟨g',cap,cur,rfl,h1,_⟩
 ·exact .inl h
 ·exact .inr ⟨_,_,rfl,h1⟩
end
end Go.Proofs.YtdbjakibneeeiaaGreatDoor.Sx
