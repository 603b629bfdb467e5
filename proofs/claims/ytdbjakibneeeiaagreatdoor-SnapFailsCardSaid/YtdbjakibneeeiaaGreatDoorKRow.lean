/- Lists of transactions in memory, for walks by reckoning. -/
import Derived.Test.YtdbjakibneeeiaaGreatDoorKG3SxB
import Derived.Test.YtdbjakibneeeiaaGreatDoorKTxnId
set_option linter.all false
set_option maxHeartbeats 4000000
set_option maxRecDepth 100000
namespace Go.Proofs.YtdbjakibneeeiaaGreatDoor.Sx
open Go.RowKit txn
section
variable {P : Program} {W : World} {G : Option Nat} {Q : Ending → World → Prop} {E : Env} {ds : List Deferred}
def BI {c:Bool} {x y:Tree} (h1:c=true→x.aD P W G Q ds) (h2:c=false→y.aD P W G Q ds):(br (c==true) x y).aD P W G Q ds:=by cases c;exact h2 rfl;exact h1 rfl
def Ck {c:Bool} {x y:Tree} (h1:c=false→x.aD P W G Q ds) (h2:c=true→y.aD P W G Q ds):(br (c==false) x y).aD P W G Q ds:=by cases c;exact h1 rfl;exact h2 rfl
def sl (n:Nat) (l:List (Nat×T)):List T:=l.foldl (fun t p=>t.set p.1 p.2) (tX n)
def At (w:World) (a:Option Addr) (xs:List Value):Prop:=∀g,(ay a xs).g=some g→∃o,w.heap[g]?=some o∧(ay a xs).holds o
def ru {w:World} {a xs} (h:At w a xs):∀φ∈[ay a xs],∀g,φ.g=some g→∃o,w.heap[g]?=some o∧φ.holds o:=by
 intro φ hφ
 simp only [List.mem_singleton] at hφ
 subst hφ
 exact h
def At.later {w w':World} {a xs} (h:At w a xs) (k:Below w.heap.size w w'):At w' a xs:=fun g hg=>by
 obtain ⟨o,ho,hp⟩:=h g hg
 exact ⟨o,(k.block g (Array.getElem?_eq_some_iff.1 ho).1).trans ho,hp⟩
def Mem.at_ {m:M} {β ρ} {w:World} {a xs} (h:Mem W G m β ρ w) (hm:ay a xs∈m.facts):At w a xs:=fun g hg=>(h.fact _ hm g hg).2
def Mem.Fw {m:M} {β ρ} {w:World} {i:Nat} {r:Row} {v:Value} (h:Mem W G m β ρ w) (hi:m.rows[i]?=some (some r)) (hv:ρ[i]?=some v):∃a c,v=.slice a r.n c∧Sl a r.n c∧At w a r.xs:=by
 obtain ⟨v',hv',ho⟩:=h.row i r hi
 rw [hv] at hv'
 cases hv'
 rcases ho.2 with ⟨rfl,h0⟩ | ⟨g,cap,cur,rfl,_,hw,hnc,hcm,hcs,ht⟩
 ·exact ⟨none,0,by rw [h0],⟨by omega,by simp [maxLen],fun _=>⟨h0,rfl⟩⟩,fun g hg=>by cases hg⟩
 ·refine ⟨some ⟨g,0,none⟩,cap,rfl,⟨hnc,hcm,fun hn=>by cases hn⟩,fun g' hg'=>?_⟩
  cases hg'
  refine ⟨_,hw,fun ad had=>?_⟩
  cases had
  refine ⟨rfl,_,_,_,rfl,fun j u hu=>?_⟩
  rw [← ht,List.getElem?_take] at hu
  split at hu
  ·simpa using hu
  ·cases hu
def At.cell {w:World} {ad:Addr} {xs} (h:At w (some ad) xs) {j:Nat} {u:Value} (hu:xs[j]?=some u):w.cell? (ad.add j)=some u:=by
 obtain ⟨o,ho,hp⟩:=h ad.block rfl
 obtain ⟨hs,cur,e,fr,rfl,hc⟩:=hp ad rfl
 have:=hc j u hu
 obtain ⟨b,o,sp⟩:=ad
 simp only [] at hs
 subst hs
 rw [eW]
 simp only [] at ho this
 simp [World.cell?,ho,this]
def Sl.le {a n c} (h:Sl a n c):n≤9223372036854775807:=by have:=h.1;have:=h.2.1;unfold maxLen at this;omega
def Sl.some {a n c} (h:Sl a n c) {k:Nat} (hk:k<n):a.isSome=true:=by
 cases a with
 | none=>have:=(h.2.2 rfl).1;omega
 | some _=>rfl
def dy (w w':World) (e:Ending) (v:Value) (fs:List Fact):Prop:=e=.returned v∧Below w.heap.size w w'∧∀φ∈fs,∀g,φ.g=some g→w.heap.size≤g∧∃o,w'.heap[g]?=some o∧φ.holds o
def dy.new {m:M} {w w':World} {e v fs} (h:dy w w' e v fs):UF W G m fs w w':=fun φ hφ g hg=>⟨.inr (.inl (h.2.2 φ hφ g hg).1),(h.2.2 φ hφ g hg).2⟩
def meet {f:FuncId} {args:List T} {m:M} {k:Value→List Fact→Tree} (v:Value) (hc:aP P f=true)
  (hC:∀β ρ w vs,Mem W G m β ρ w→ak β ρ args vs→Calls P f (List.toArray vs) w fun e w'=>e=.returned v∧Below w.heap.size w w') (h:(k v []).aD P W G Q ds):(Tree.call f args m k).aD P W G Q ds:=
 ⟨hc,fun β ρ w vs hm hr=>(hC β ρ w vs hm hr).mono fun e w' ⟨he,hb⟩=>⟨v,[],he,hb,fun φ hφ=>(by cases hφ),h⟩⟩
def rX {f:FuncId} {args:List T} {m:M} {k:Value→List Fact→Tree} {ι:Type} {ok:ι→Prop} {v:ι→Value} {fs:ι→List Fact} (hc:aP P f=true)
  (hC:∀β ρ w vs,Mem W G m β ρ w→ak β ρ args vs→Calls P f (List.toArray vs) w fun e w'=>∃i,ok i∧dy w w' e (v i) (fs i)) (h:∀i,ok i→(k (v i) (fs i)).aD P W G Q ds):(Tree.call f args m k).aD P W G Q ds:=
 ⟨hc,fun β ρ w vs hm hr=>(hC β ρ w vs hm hr).mono fun e w' ⟨i,hi,hg⟩=>⟨v i,fs i,hg.1,hg.2.1,hg.new,h i hi⟩⟩
def ak.iX {β ρ}:∀{l:List Value} {vs:List Value},ak β ρ (l.map T.v) vs→vs=l
 | [],vs,h=>List.eq_nil_of_length_eq_zero h.1
 | x::l,vs,h=>by
  cases vs with
  | nil=>have:=h.1;simp at this
  | cons y vs=>
   obtain ⟨y',hy,hyr⟩:=h.2 0 _ rfl
   simp at hy
   subst hy
   have:ak β ρ (l.map T.v) vs:=⟨by have:=h.1;simpa using this,fun i x hx=>by obtain ⟨u,hu,hur⟩:=h.2 (i+1) x (by simpa using hx);exact ⟨u,by simpa using hu,hur⟩⟩
   rw [ak.iX this]
   have e:y=x:=hyr
   rw [e]
end
section
variable {P : Program} {W : World} {G : Option Nat} {Q : Ending → World → Prop} {ds : List Deferred}
def ak.two {β ρ x1 x2 vs} (h:ak β ρ [x1,x2] vs):∃y1 y2,vs=[y1,y2]∧Rel β ρ x1 y1∧Rel β ρ x2 y2:=by
 have hl:=h.1
 match vs,hl with
 | [y1,y2],_=>
  obtain ⟨z1,h1,r1⟩:=h.2 0 x1 rfl
  obtain ⟨z2,h2,r2⟩:=h.2 1 x2 rfl
  simp at h1 h2
  subst h1 h2
  exact ⟨_,_,rfl,r1,r2⟩
def Rel.Qj {β ρ f b o y} (h:Rel β ρ (.fn f [(b,o)]) y):∃g,β[b]?=some g∧y=.func (.func f) #[] (List.toArray [.pointer (some ⟨g,o,none⟩)]):=by
 obtain ⟨cs,rfl,hl,hc⟩:=h
 obtain ⟨u,hu,g,hg,rfl⟩:=hc 0 (b,o) rfl
 match cs,hl with
 | [u'],_=>
  simp at hu
  subst hu
  exact ⟨g,hg,rfl⟩
def Mem.box {m:M} {β ρ} {w:World} {b g:Nat} {l:List Value} {ty:TypeId} (h:Mem W G m β ρ w) (hb:m.own[b]?=some (some (l.map T.v,ty))) (hg:β[b]?=some g):At w (some ⟨g,0,none⟩) l:=by
 obtain ⟨g',l',hg',hw,hr,_⟩:=h.own b _ ty hb
 rw [hg] at hg'
 cases hg'
 have:=ak.iX hr
 subst this
 intro g2 hg2
 cases hg2
 refine ⟨_,hw,fun ad had=>?_⟩
 cases had
 exact ⟨rfl,_,_,_,rfl,fun j u hu=>by simpa using hu⟩
def oq {ty:TypeId} {ad a:Addr} {xs:List Value} {j:Nat} {m:M} {K:Value→Tree} (v:Value) (hty:lk env.agg ty=some none) (hm:ay (some ad) xs∈m.facts) (hv:xs[j]?=some v) (haddr:a=ad.add j) (h:(K v).aD Tryz.prog W G Q ds):(Tree.load ty a m K).aD Tryz.prog W G Q ds:=by
 refine ⟨v,fun β ρ w hM=>?_,h⟩
 have hc:=(hM.at_ hm).cell hv
 rw [aq.agg1 ty hty,haddr]
 simp [load,Sem.run,hc]
end
def bQ (x:Tx):List Value:=[.int .i64 x.s,.int .i64 x.n,.int .i64 x.t,.int .i64 x.c,.int .i64 x.g,.string x.d]
def ah (l:List Tx):List Value:=l.flatMap bQ
def a0W (l:List Tx):(ah l).length=l.length*6:=by
 induction l with
 | nil=>rfl
 | cons x l ih=>simp only [ah,List.flatMap_cons,List.length_append] at ih ⊢;rw [ih];simp [bQ];omega
def jt:∀{l:List Tx} {k:Nat} {x:Tx},l[k]?=some x→∀(j:Nat) (u:Value),(bQ x)[j]?=some u→(ah l)[k*6+j]?=some u
 | y::l,0,x,h,j,u,hu=>by
  simp at h
  subst h
  have hj:j<6:=by have:=(List.getElem?_eq_some_iff.1 hu).1;simpa [bQ] using this
  simp only [ah,List.flatMap_cons]
  rw [List.getElem?_append_left (by simp [bQ];omega)]
  simpa using hu
 | y::l,k+1,x,h,j,u,hu=>by
  have ih:=jt (l:=l) (k:=k) (by simpa using h) j u hu
  simp only [ah,List.flatMap_cons]
  rw [List.getElem?_append_right (by simp [bQ];omega)]
  have:(k+1)*6+j - (bQ y).length=k*6+j:=by simp [bQ];omega
  rw [this]
  exact ih
def fX (l r:List Tx):ah (l++r)=ah l++ah r:=by simp [ah]
def sJ (l:List Tx):∀u∈ah l,u.oneCell'=true:=by
 intro u hu
 simp only [ah,List.mem_flatMap,bQ] at hu
 obtain ⟨x,_,hx⟩:=hu
 simp at hx
 rcases hx with rfl | rfl | rfl | rfl | rfl | rfl <;> rfl
def sA {l:List Tx} {j:Nat} {u:Value} (h:(ah l)[j]?=some u):0<l.length:=by
 cases l with
 | nil=>simp [ah] at h
 | cons x l=>simp
def pt (a:Option Addr) (n:Nat):Option Addr:=if n=0 then none else a
def dR {a:Option Addr} {n k:Nat} (h:k<n):pt a n=a:=if_neg (by omega)
section
variable {W : World} {G : Option Nat} {Q : Ending → World → Prop} {ds : List Deferred}
def BN {ty:TypeId} {ad:Option Addr} {l:List Tx} {k f:Nat} {x:Tx} {m:M} {K:Value→Tree} {a:Addr} (v:Value) (hty:lk env.agg ty=some none) {n:Nat} (hm:ay (pt ad n) (ah l)∈m.facts) (hk:k<n) (ha:ad.isSome=true) (hx:l[k]?=some x) (hv:(bQ x)[f]?=some v)
  (haddr:a=((ad.getD ⟨0,0,none⟩).add (k*6)).add f) (h:(K v).aD Tryz.prog W G Q ds):(Tree.load ty a m K).aD Tryz.prog W G Q ds:=by
 rw [dR hk] at hm
 refine ⟨v,fun β ρ w hM=>?_,h⟩
 cases ad with
 | none=>cases ha
 | some ad=>
  have hc:=(hM.at_ hm).cell (jt hx f v hv)
  have e:a=ad.add (k*6+f):=by
   rw [haddr]
   simp only [Option.getD_some]
   obtain ⟨b,o,sp⟩:=ad
   unfold Addr.add
   by_cases h1:k*6=0 <;> by_cases h2:f=0 <;> simp [h1,h2,Nat.add_assoc]
  rw [aq.agg1 ty hty]
  rw [e]
  simp [load,Sem.run,hc]
def mV {ty:TypeId} {ad:Option Addr} {l:List Tx} {k:Nat} {x:Tx} {m:M} {K:Value→Tree} {a:Addr} (hty:lk env.agg ty=some (some 6)) {n:Nat} (hm:ay (pt ad n) (ah l)∈m.facts) (hk:k<n) (ha:ad.isSome=true) (hx:l[k]?=some x)
  (haddr:a=(ad.getD ⟨0,0,none⟩).add (k*6)) (h:(K x.val).aD Tryz.prog W G Q ds):(Tree.load ty a m K).aD Tryz.prog W G Q ds:=by
 rw [dR hk] at hm
 refine ⟨x.val,fun β ρ w hM=>?_,h⟩
 cases ad with
 | none=>cases ha
 | some ad=>
  have:=aq.aggN ty 6 hty a w (bQ x) rfl (fun j u hu=>by
   have hc:=(hM.at_ hm).cell (jt hx j u hu)
   rw [haddr]
   simp only [Option.getD_some]
   obtain ⟨b,o,sp⟩:=ad
   unfold Addr.add at hc ⊢
   by_cases h1:k*6=0 <;> by_cases h2:j=0 <;> simp_all [Nat.add_assoc])
  rw [this]
  rfl
end
end Go.Proofs.YtdbjakibneeeiaaGreatDoor.Sx
