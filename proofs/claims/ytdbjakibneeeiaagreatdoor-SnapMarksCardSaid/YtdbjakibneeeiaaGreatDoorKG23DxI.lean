/- Deep data: what rows hold, whatever the places where they lie. -/
import Derived.Test.YtdbjakibneeeiaaGreatDoorKG18QueueOpen
import Derived.Test.YtdbjakibneeeiaaGreatDoorKG22HeapAll
set_option linter.all false
set_option maxHeartbeats 4000000
set_option maxRecDepth 100000
namespace Go.Proofs.YtdbjakibneeeiaaGreatDoor.Sx
open Go.RowKit
def numZ:Nat→Value
 | 0=>.int .u8 0
 | 1=>.int .u64 0
 | 2=>.int .u32 0
 | 3=>.int .u16 0
 | 4=>.int .i32 0
 | 5=>.complex .f64 0 0
 | 6=>.float .f64 0
 | 7=>.nilFunc
 | _=>.nilIface
theorem numZ_one:∀k,(numZ k).oneCell'=true
 | 0=>rfl
 | 1=>rfl
 | 2=>rfl
 | 3=>rfl
 | 4=>rfl
 | 5=>rfl
 | 6=>rfl
 | 7=>rfl
 | _+8=>rfl
mutual
def Den:Sh→Type
 | .int=>Int
 | .bool=>Bool
 | .str=>ByteArray
 | .num _=>Value
 | .flat l=>DenL l
 | .row e=>List (Den e)
termination_by structural s=>s
def DenL:List Sh→Type
 | []=>Unit
 | s::l=>Den s×DenL l
termination_by structural l=>l
end
mutual
def Sh.eqB:Sh→Sh→Bool
 | .int,.int=>true
 | .bool,.bool=>true
 | .str,.str=>true
 | .num a,.num b=>a==b
 | .flat l,.flat k=>Sh.eqL l k
 | .row e,.row f=>Sh.eqB e f
 | _,_=>false
termination_by structural s=>s
def Sh.eqL:List Sh→List Sh→Bool
 | [],[]=>true
 | s::l,u::k=>Sh.eqB s u&&Sh.eqL l k
 | _,_=>false
termination_by structural l=>l
end
mutual
theorem Sh.eq_of:∀{s u:Sh},Sh.eqB s u=true→s=u
 | .int,.int,_=>rfl
 | .bool,.bool,_=>rfl
 | .str,.str,_=>rfl
 | .num a,.num b,h=>congrArg Sh.num (eq_of_beq (show (a==b)=true from h))
 | .flat l,.flat k,h=>congrArg Sh.flat (Sh.eqL_of h)
 | .row e,.row f,h=>congrArg Sh.row (Sh.eq_of h)
theorem Sh.eqL_of:∀{l k:List Sh},Sh.eqL l k=true→l=k
 | [],[],_=>rfl
 | s::l,u::k,h=>by
  have h:(Sh.eqB s u&&Sh.eqL l k)=true:=h
  rw [Bool.and_eq_true] at h
  rw [Sh.eq_of h.1,Sh.eqL_of h.2]
end
def Sh.castB (s u:Sh) (L:List (Den s)):Option (List (Den u)):=match h:Sh.eqB s u with
 | true=>some (Sh.eq_of h▸L)
 | false=>none
mutual
def Sh.z:(s:Sh)→Den s
 | .int=>(0:Int)
 | .bool=>false
 | .str=>ByteArray.empty
 | .num k=>numZ k
 | .flat l=>Sh.zL l
 | .row e=>([]:List (Den e))
termination_by structural s=>s
def Sh.zL:(l:List Sh)→DenL l
 | []=>()
 | s::l=>(Sh.z s,Sh.zL l)
termination_by structural l=>l
end
inductive TD where
 | any
 | v (x:Value)
 | d (s:Sh) (l:List (Den s))
 | g (cs:List TD)
 | u (cs:List TD)
 | p (b o:Nat)
 | fn (f:FuncId) (caps:List (Nat×Nat))
 | s (b n:Nat)
 | r (i:Nat)
 | q (i sz j o:Nat)
 | e (s:Sh) (l:List (Den s)) (j o:Nat)
mutual
def cellsD:(s:Sh)→Den s→List TD
 | .int,x=>[.v (.int .i64 x)]
 | .bool,x=>[.v (.bool x)]
 | .str,x=>[.v (.string x)]
 | .num _,x=>[.v x]
 | .flat l,x=>cellsDL l x
 | .row e,x=>[.d e x]
termination_by structural s=>s
def cellsDL:(l:List Sh)→DenL l→List TD
 | [],_=>[]
 | s::l,x=>cellsD s x.1++cellsDL l x.2
termination_by structural l=>l
end
mutual
def packD:(s:Sh)→List TD→Option (Den s×List TD)
 | .int,.v (.int .i64 x)::r=>some (x,r)
 | .bool,.v (.bool x)::r=>some (x,r)
 | .str,.v (.string x)::r=>some (x,r)
 | .num _,.v x::r=>bif Value.oneCell' x then some (x,r) else none
 | .flat l,cs=>packL l cs
 | .row e,.d s L::r=>(Sh.castB s e L).map fun L=>(L,r)
 | .row e,.v (.slice none 0 0)::r=>some (([]:List (Den e)),r)
 | _,_=>none
termination_by structural s=>s
def packL:(l:List Sh)→List TD→Option (DenL l×List TD)
 | [],r=>some ((),r)
 | s::l,cs=>match packD s cs with
  | some (x,r)=>match packL l r with
   | some (y,r)=>some ((x,y),r)
   | none=>none
  | none=>none
termination_by structural l=>l
end
example (a b:Int) (L:List (Den .int)):packD (.flat [.int,.row .int,.int]) [.v (.int .i64 a),.d .int L,.v (.int .i64 b)]=some ((a,L,b,()),[]):=rfl
example (x:Den (.flat [.int,.row .int,.int])):packD (.flat [.int,.row .int,.int]) (cellsD (.flat [.int,.row .int,.int]) x)=some (x,[]):=rfl
def LieN {α:Type} (Q:α→List Value→Prop):List α→List Value→Prop
 | [],vs=>vs=[]
 | x::L,vs=>∃v1 v2,vs=v1++v2∧Q x v1∧LieN Q L v2
mutual
def LieV (R:Option Addr→List Value→Prop):(s:Sh)→Den s→List Value→Prop
 | .int,x,vs=>vs=[.int .i64 x]
 | .bool,x,vs=>vs=[.bool x]
 | .str,x,vs=>vs=[.string x]
 | .num _,x,vs=>vs=[x]∧Value.oneCell' x=true
 | .flat l,x,vs=>LieL R l x vs
 | .row e,L,vs=>∃(a:Option Addr) (n c:Nat) (xs:List Value),vs=[.slice a n c]∧Sl a n c∧n=List.length (α:=Den e) L∧LieN (LieV R e) L xs∧R (pt a n) xs
termination_by structural s=>s
def LieL (R:Option Addr→List Value→Prop):(l:List Sh)→DenL l→List Value→Prop
 | [],_,vs=>vs=[]
 | s::l,x,vs=>∃v1 v2,vs=v1++v2∧LieV R s x.1 v1∧LieL R l x.2 v2
termination_by structural l=>l
end
section
variable {R R' : Option Addr → List Value → Prop}
theorem LieN.mono {α:Type} {Q Q':α→List Value→Prop} (h:∀x vs,Q x vs→Q' x vs):∀{L:List α} {vs:List Value},LieN Q L vs→LieN Q' L vs
 | [],_,k=>k
 | x::L,_,⟨v1,v2,e,k1,k2⟩=>⟨v1,v2,e,h _ _ k1,LieN.mono h k2⟩
mutual
theorem LieV.mono (h:∀a xs,R a xs→R' a xs):∀{s:Sh} {x:Den s} {vs:List Value},LieV R s x vs→LieV R' s x vs
 | .int,_,_,k=>k
 | .bool,_,_,k=>k
 | .str,_,_,k=>k
 | .num _,_,_,k=>k
 | .flat l,_,_,k=>LieL.mono h (l:=l) k
 | .row e,_,_,⟨a,n,c,xs,e1,e2,e3,k,r⟩=>⟨a,n,c,xs,e1,e2,e3,LieN.mono (fun x vs=>LieV.mono h (s:=e)) k,h _ _ r⟩
theorem LieL.mono (h:∀a xs,R a xs→R' a xs):∀{l:List Sh} {x:DenL l} {vs:List Value},LieL R l x vs→LieL R' l x vs
 | [],_,_,k=>k
 | s::l,_,_,⟨v1,v2,e,k1,k2⟩=>⟨v1,v2,e,LieV.mono h (s:=s) k1,LieL.mono h (l:=l) k2⟩
end
mutual
theorem LieV.len:∀{s:Sh} {x:Den s} {vs:List Value},LieV R s x vs→vs.length=s.size
 | .int,_,_,k=>by have k:_=_:=k;rw [k];rfl
 | .bool,_,_,k=>by have k:_=_:=k;rw [k];rfl
 | .str,_,_,k=>by have k:_=_:=k;rw [k];rfl
 | .num _,_,_,k=>by have k:_=_:=k.1;rw [k];rfl
 | .flat l,_,_,k=>LieL.len (l:=l) k
 | .row e,_,_,⟨_,_,_,_,e1,_⟩=>by rw [e1];rfl
theorem LieL.len:∀{l:List Sh} {x:DenL l} {vs:List Value},LieL R l x vs→vs.length=Sh.sizes l
 | [],_,_,k=>by have k:_=_:=k;rw [k];rfl
 | s::l,_,_,⟨v1,v2,e,k1,k2⟩=>by rw [e,List.length_append,LieV.len (s:=s) k1,LieL.len (l:=l) k2];rfl
end
theorem LieN.len {α:Type} {Q:α→List Value→Prop} {z:Nat} (hz:∀x vs,Q x vs→vs.length=z):∀{L:List α} {vs:List Value},LieN Q L vs→vs.length=L.length*z
 | [],_,k=>by have k:_=_:=k;rw [k];simp
 | x::L,_,⟨v1,v2,e,k1,k2⟩=>by rw [e,List.length_append,hz _ _ k1,LieN.len hz k2,List.length_cons,Nat.succ_mul];omega
theorem LieN.at {α:Type} {Q:α→List Value→Prop} {z:Nat} (hz:∀x vs,Q x vs→vs.length=z):∀{L:List α} {vs:List Value} {j:Nat} {x:α},LieN Q L vs→L[j]?=some x→∃us,Q x us∧∀(i:Nat) (u:Value),us[i]?=some u→vs[j*z+i]?=some u
 | [],_,_,_,_,h=>by simp at h
 | y::L,_,0,x,⟨v1,v2,e,k1,k2⟩,h=>by
  obtain rfl:y=x:=by simpa using h
  refine ⟨v1,k1,fun i u hu=>?_⟩
  rw [e,Nat.zero_mul,Nat.zero_add,List.getElem?_append_left (List.getElem?_eq_some_iff.1 hu).1]
  exact hu
 | y::L,_,j+1,x,⟨v1,v2,e,k1,k2⟩,h=>by
  obtain ⟨us,h1,h2⟩:=LieN.at hz k2 (by simpa using h)
  refine ⟨us,h1,fun i u hu=>?_⟩
  have hl:=hz _ _ k1
  rw [e,List.getElem?_append_right (by rw [hl,Nat.succ_mul];omega),show (j+1)*z+i - v1.length=j*z+i by rw [hl,Nat.succ_mul];omega]
  exact h2 i u hu
theorem LieN.app {α:Type} {Q:α→List Value→Prop}:∀{L M:List α} {vs us:List Value},LieN Q L vs→LieN Q M us→LieN Q (L++M) (vs++us)
 | [],_,_,_,h,k=>by have h:_=_:=h;rw [h];exact k
 | x::L,_,_,_,⟨v1,v2,e,k1,k2⟩,k=>⟨v1,v2++_,by rw [e,List.append_assoc],k1,LieN.app k2 k⟩
end
end Go.Proofs.YtdbjakibneeeiaaGreatDoor.Sx
namespace Go.Proofs.YtdbjakibneeeiaaGreatDoor.Sx
open Go.RowKit
variable {Ob : Nat → Prop}
def inF (fs:List Fact) (a:Option Addr) (xs:List Value):Prop:=a=none∨∃φ∈fs,φ.g=(rowF a xs).g∧∀o,φ.holds o→(rowF a xs).holds o
theorem inF.of {fs:List Fact} {a:Option Addr} {xs:List Value} (h:rowF a xs∈fs):inF fs a xs:=.inr ⟨_,h,rfl,fun _ h=>h⟩
mutual
def RelV (fs:List Fact):TD→Value→Prop
 | .v x,y=>y=x
 | .d s L,y=>LieV (inF fs) (.row s) L [y]
 | .g cs,y=>∃vs:List Value,y=.agg vs.toArray∧RelVs fs cs vs
 | .u cs,y=>∃vs:List Value,y=.tuple vs.toArray∧RelVs fs cs vs
 | _,_=>False
termination_by structural x=>x
def RelVs (fs:List Fact):List TD→List Value→Prop
 | [],vs=>vs=[]
 | c::cs,vs=>∃y ys,vs=y::ys∧RelV fs c y∧RelVs fs cs ys
termination_by structural x=>x
end
def RelT (fs:List Fact):TD→T→Prop
 | .any,_=>True
 | .p b o,t=>t=.p b o
 | .fn f c,t=>t=.fn f c
 | .s b n,t=>t=.s b n
 | .r i,t=>t=.r i
 | .q i sz j o,t=>t=.q i (j*sz+o)
 | .e s L j o,t=>∃(A:Addr) (xs:List Value) (ad:Addr),t=.v (.pointer (some ad))∧LieN (LieV (inF fs) s) L xs∧inF fs (some A) xs∧ad.block=A.block∧ad.off=A.off+(j*s.size+o)∧(A.spot=none→ad.spot=none)
 | .v x,t=>t=.v x
 | x,t=>∃y,t=.v y∧RelV fs x y
def RTs (fs:List Fact) (cs:List TD) (ts:List T):Prop:=cs.length=ts.length∧∀(i:Nat) (c:TD),cs[i]?=some c→∃t,ts[i]?=some t∧RelT fs c t
structure RowD where
 e:TypeId
 size:Nat
 s:Sh
 l:List (Den s)
structure MD where
 own:List (Option (List TD×TypeId))
 rows:List (Option RowD)
structure RM (Ob:Nat→Prop) (fs:List Fact) (md:MD) (m:M):Prop where
 fe:m.facts=fs
 ob:∀φ∈fs,∀g,φ.g=some g→Ob g
 ol:md.own.length=m.own.length
 own:∀(b:Nat) (cs:List TD) (ty:TypeId),md.own[b]?=some (some (cs,ty))→∃ts,m.own[b]?=some (some (ts,ty))∧RTs fs cs ts
 rl:md.rows.length=m.rows.length
 row:∀(i:Nat) (r:RowD),md.rows[i]?=some (some r)→∃xs,m.rows[i]?=some (some ⟨r.e,r.size,r.l.length,xs⟩)∧r.size=r.s.size∧LieN (LieV (inF fs) r.s) r.l xs
section
variable {fs fs' : List Fact}
theorem inF.mono (h:∀φ∈fs,φ∈fs') {a xs}:inF fs a xs→inF fs' a xs:=fun k=>k.imp (fun e=>e) (fun ⟨φ,h1,h2⟩=>⟨φ,h _ h1,h2⟩)
mutual
theorem RelV.mono (h:∀φ∈fs,φ∈fs'):∀{x:TD} {y:Value},RelV fs x y→RelV fs' x y
 | .v _,_,k=>k
 | .d s L,_,k=>LieV.mono (s:=.row s) (fun _ _=>inF.mono h) k
 | .g cs,_,⟨vs,e,k⟩=>⟨vs,e,RelVs.mono h k⟩
 | .u cs,_,⟨vs,e,k⟩=>⟨vs,e,RelVs.mono h k⟩
 | .any,_,k=>k.elim
 | .p _ _,_,k=>k.elim
 | .fn _ _,_,k=>k.elim
 | .s _ _,_,k=>k.elim
 | .r _,_,k=>k.elim
 | .q _ _ _ _,_,k=>k.elim
 | .e _ _ _ _,_,k=>k.elim
theorem RelVs.mono (h:∀φ∈fs,φ∈fs'):∀{x:List TD} {y:List Value},RelVs fs x y→RelVs fs' x y
 | [],_,k=>k
 | c::cs,_,⟨y,ys,e,k1,k2⟩=>⟨y,ys,e,RelV.mono h k1,RelVs.mono h k2⟩
end
theorem RelT.mono (h:∀φ∈fs,φ∈fs') {x:TD} {t:T} (k:RelT fs x t):RelT fs' x t:=by
 cases x with
 | e s L j o=>
  obtain ⟨A,xs,ad,e1,e2,e3,e4⟩:=k
  exact ⟨A,xs,ad,e1,LieN.mono (fun x vs=>LieV.mono (s:=s) (fun _ _=>inF.mono h)) e2,inF.mono h e3,e4⟩
 | d s L=>exact k.imp fun y ⟨e,k⟩=>⟨e,RelV.mono h k⟩
 | g cs=>exact k.imp fun y ⟨e,k⟩=>⟨e,RelV.mono h k⟩
 | u cs=>exact k.imp fun y ⟨e,k⟩=>⟨e,RelV.mono h k⟩
 | _=>exact k
theorem RTs.mono (h:∀φ∈fs,φ∈fs') {x:List TD} {t:List T} (k:RTs fs x t):RTs fs' x t:=⟨k.1,fun i c hc=>(k.2 i c hc).imp fun t ⟨e,r⟩=>⟨e,r.mono h⟩⟩
theorem RM.mono {md:MD} {m:M} (k:RM Ob fs md m) (gs:List Fact) (ho:∀φ∈gs,∀g,φ.g=some g→Ob g):RM Ob (gs++fs) md (m.learn gs) where
 fe:=by simp [M.learn,k.fe]
 ob φ hφ:=(List.mem_append.1 hφ).elim (ho φ) (k.ob φ)
 ol:=k.ol
 own b cs ty hb:=(k.own b cs ty hb).imp fun ts ⟨e,r⟩=>⟨e,r.mono fun φ hφ=>List.mem_append_right _ hφ⟩
 rl:=k.rl
 row i r hr:=(k.row i r hr).imp fun xs ⟨e,z,l⟩=>⟨e,z,LieN.mono (fun x vs=>LieV.mono (s:=r.s) (fun _ _=>inF.mono fun φ hφ=>List.mem_append_right _ hφ)) l⟩
theorem relT_v {x:TD} {y:Value} (h:RelV fs x y):RelT fs x (.v y):=by
 cases x with
 | v x=>exact congrArg T.v h
 | d s L=>exact ⟨y,rfl,h⟩
 | g cs=>exact ⟨y,rfl,h⟩
 | u cs=>exact ⟨y,rfl,h⟩
 | _=>exact h.elim
theorem RelVs.rts:∀{cs:List TD} {vs:List Value},RelVs fs cs vs→RTs fs cs (vs.map T.v)
 | [],_,h=>by
  have h:_=_:=h
  rw [h]
  exact ⟨rfl,fun i c hc=>by simp at hc⟩
 | c::cs,_,⟨y,ys,e,h1,h2⟩=>by
  have k:=RelVs.rts h2
  rw [e]
  refine ⟨by simpa using k.1,fun i d hd=>?_⟩
  cases i with
  | zero=>
   obtain rfl:c=d:=by simpa using hd
   exact ⟨_,rfl,relT_v h1⟩
  | succ i=>simpa using k.2 i d (by simpa using hd)
theorem RTs.nil:RTs fs [] []:=⟨rfl,fun i c hc=>by simp at hc⟩
theorem RTs.cons {c:TD} {t:T} {cs:List TD} {ts:List T} (h:RelT fs c t) (k:RTs fs cs ts):RTs fs (c::cs) (t::ts):=by
 refine ⟨by simpa using k.1,fun i d hd=>?_⟩
 cases i with
 | zero=>
  obtain rfl:c=d:=by simpa using hd
  exact ⟨_,rfl,h⟩
 | succ i=>simpa using k.2 i d (by simpa using hd)
theorem RTs.tail {c:TD} {cs:List TD} {ts:List T} (k:RTs fs (c::cs) ts):∃t us,ts=t::us∧RelT fs c t∧RTs fs cs us:=by
 cases ts with
 | nil=>simp [RTs] at k
 | cons t us=>
  obtain ⟨t',e,r⟩:=k.2 0 c rfl
  simp at e
  subst e
  exact ⟨t,us,rfl,r,⟨by simpa using k.1,fun i d hd=>by simpa using k.2 (i+1) d (by simpa using hd)⟩⟩
theorem RTs.app {cs ds:List TD} {ts us:List T} (h:RTs fs cs ts) (k:RTs fs ds us):RTs fs (cs++ds) (ts++us):=by
 refine ⟨by simp [h.1,k.1],fun i c hc=>?_⟩
 rcases Nat.lt_or_ge i cs.length with hi | hi
 ·rw [List.getElem?_append_left hi] at hc
  rw [List.getElem?_append_left (by rw [← h.1];exact hi)]
  exact h.2 i c hc
 ·rw [List.getElem?_append_right hi] at hc
  rw [List.getElem?_append_right (by rw [← h.1];exact hi),← h.1]
  exact k.2 _ c hc
theorem RTs.take {cs:List TD} {ts:List T} (h:RTs fs cs ts) (n:Nat):RTs fs (cs.take n) (ts.take n):=by
 refine ⟨by simp [h.1],fun i c hc=>?_⟩
 rw [List.getElem?_take] at hc ⊢
 by_cases hi:i<n
 ·rw [if_pos hi] at hc ⊢;exact h.2 i c hc
 ·rw [if_neg hi] at hc;cases hc
theorem RTs.drop {cs:List TD} {ts:List T} (h:RTs fs cs ts) (n:Nat):RTs fs (cs.drop n) (ts.drop n):=by
 refine ⟨by simp [h.1],fun i c hc=>?_⟩
 rw [List.getElem?_drop] at hc ⊢
 exact h.2 _ c hc
theorem RTs.spl {cs ds:List TD} {ts us:List T} (h:RTs fs cs ts) (k:RTs fs ds us) (o:Nat):RTs fs (spl cs o ds) (spl ts o us):=by
 unfold Sx.spl
 rw [k.1]
 exact ((h.take o).app k).app (h.drop _)
theorem RTs.set {cs:List TD} {ts:List T} (h:RTs fs cs ts) (i:Nat) {x:TD} {y:T} (hx:RelT fs x y):RTs fs (cs.set i x) (ts.set i y):=by
 refine ⟨by simp [h.1],fun j c hc=>?_⟩
 rw [List.getElem?_set] at hc ⊢
 by_cases e:i=j
 ·subst e
  rw [if_pos rfl] at hc ⊢
  by_cases hl:i<cs.length
  ·rw [if_pos hl] at hc
   rw [if_pos (by rw [← h.1];exact hl)]
   obtain rfl:=Option.some.inj hc
   exact ⟨y,rfl,hx⟩
  ·rw [if_neg hl] at hc;cases hc
 ·rw [if_neg e] at hc ⊢
  exact h.2 j c hc
end
def dget (t:List TD) (i:Nat):TD:=t.getD i .any
def dput (t:List TD) (d:Option Tmp) (x:TD):List TD:=match d with | some i=>t.set i x | none=>t
def dev (t:List TD):Operand→TD
 | .tmp i=>dget t i
 | .const x=>.v x
 | .global g=>.v (.pointer (some ⟨g,0,none⟩))
 | .func f=>.v (.func (.func f) #[] #[])
section
variable {fs : List Fact} {td : List TD} {t : List T}
theorem RTs.get (h:RTs fs td t) (i:Nat):RelT fs (dget td i) (get t i):=by
 unfold dget Sx.get
 rw [List.getD_eq_getElem?_getD,List.getD_eq_getElem?_getD]
 cases hc:td[i]? with
 | none=>exact trivial
 | some c=>
  obtain ⟨u,hu,r⟩:=h.2 i c hc
  rw [hu]
  exact r
theorem RTs.put (h:RTs fs td t) (d:Option Tmp) {x:TD} {y:T} (hx:RelT fs x y):RTs fs (dput td d x) (put t d y):=by
 cases d with
 | none=>exact h
 | some i=>exact h.set i hx
theorem RTs.ev (h:RTs fs td t) (x:Operand):RelT fs (dev td x) (ev t x):=by
 cases x with
 | tmp i=>exact h.get i
 | const x=>exact rfl
 | global g=>exact rfl
 | func f=>exact rfl
end
def dcells:TD→Option (List TD)
 | .v x=>some (x.cells.toList.map .v)
 | .g cs=>some cs
 | .d s L=>some [.d s L]
 | .p b o=>some [.p b o]
 | .fn f c=>some [.fn f c]
 | .s b n=>some [.s b n]
 | _=>none
def dones:List TD→Bool
 | []=>true
 | .v x::l=>x.oneCell'&&dones l
 | .d _ _::l=>dones l
 | .p _ _::l=>dones l
 | .fn _ _::l=>dones l
 | .s _ _::l=>dones l
 | _::_=>false
def dvals:List TD→Bool
 | []=>true
 | .v x::l=>dvals l
 | .d _ _::l=>dvals l
 | _::_=>false
section
variable {fs : List Fact}
theorem rts_vals (l:List Value):RTs fs (l.map TD.v) (l.map T.v):=by
 induction l with
 | nil=>exact RTs.nil
 | cons x l ih=>exact RTs.cons rfl ih
theorem dcells_rel {x:TD} {t:T} {cs:List TD} (h:RelT fs x t) (hc:dcells x=some cs):∃ts,cellsT t=some ts∧RTs fs cs ts:=by
 cases x with
 | v x=>
  cases hc
  have h:t=.v x:=h
  subst h
  exact ⟨_,rfl,rts_vals _⟩
 | g cs'=>
  cases hc
  obtain ⟨y,rfl,vs,rfl,h⟩:=h
  exact ⟨_,rfl,by simpa [Value.cells] using h.rts⟩
 | d s L=>
  cases hc
  obtain ⟨y,rfl,h⟩:=h
  obtain ⟨a,n,c,xs,e,_⟩:=id h
  obtain rfl:y=.slice a n c:=by simpa using e
  exact ⟨_,rfl,RTs.cons (relT_v h) RTs.nil⟩
 | p b o=>cases hc;have h:t=_:=h;subst h;exact ⟨_,rfl,RTs.cons rfl RTs.nil⟩
 | fn f c=>cases hc;have h:t=_:=h;subst h;exact ⟨_,rfl,RTs.cons rfl RTs.nil⟩
 | s b n=>cases hc;have h:t=_:=h;subst h;exact ⟨_,rfl,RTs.cons rfl RTs.nil⟩
 | _=>cases hc
theorem dones_rel:∀{cs:List TD} {ts:List T},RTs fs cs ts→dones cs=true→onesT ts=true
 | [],ts,h,_=>by
  have:ts=[]:=List.eq_nil_of_length_eq_zero (by simpa using h.1.symm)
  rw [this];rfl
 | c::cs,ts,h,k=>by
  obtain ⟨t,us,rfl,h1,h2⟩:=h.tail
  cases c with
  | v x=>
   have h1:t=.v x:=h1
   subst h1
   simp only [dones,Bool.and_eq_true] at k
   simp only [onesT,Bool.and_eq_true]
   exact ⟨k.1,dones_rel h2 k.2⟩
  | d s L=>
   obtain ⟨y,rfl,a,n,cc,xs,e,_⟩:=h1
   obtain rfl:y=.slice a n cc:=by simpa using e
   simp only [onesT,Bool.and_eq_true]
   exact ⟨rfl,dones_rel h2 k⟩
  | p b o=>have h1:t=_:=h1;subst h1;exact (show onesT us=true from dones_rel h2 (show dones cs=true from k))
  | fn f c=>have h1:t=_:=h1;subst h1;exact (show onesT us=true from dones_rel h2 (show dones cs=true from k))
  | s b n=>have h1:t=_:=h1;subst h1;exact (show onesT us=true from dones_rel h2 (show dones cs=true from k))
  | _=>cases k
theorem dvals_rel:∀{cs:List TD} {ts:List T},RTs fs cs ts→dvals cs=true→∃vs,valsOf ts=some vs∧RelVs fs cs vs∧ts=vs.map T.v
 | [],ts,h,_=>by
  have:ts=[]:=List.eq_nil_of_length_eq_zero (by simpa using h.1.symm)
  rw [this];exact ⟨[],rfl,rfl,rfl⟩
 | c::cs,ts,h,k=>by
  obtain ⟨t,us,rfl,h1,h2⟩:=h.tail
  cases c with
  | v x=>
   have h1:t=.v x:=h1
   subst h1
   obtain ⟨vs,e1,e2,e3⟩:=dvals_rel h2 k
   exact ⟨x::vs,by simp [valsOf,e1],⟨x,vs,rfl,rfl,e2⟩,by rw [e3];rfl⟩
  | d s L=>
   obtain ⟨y,rfl,h1⟩:=h1
   obtain ⟨vs,e1,e2,e3⟩:=dvals_rel h2 k
   exact ⟨y::vs,by simp [valsOf,e1],⟨y,vs,rfl,h1,e2⟩,by rw [e3];rfl⟩
  | _=>cases k
end
section
variable {fs : List Fact}
theorem RelVs.app:∀{cs ds:List TD} {vs us:List Value},RelVs fs cs vs→RelVs fs ds us→RelVs fs (cs++ds) (vs++us)
 | [],_,_,_,h,k=>by have h:_=_:=h;rw [h];exact k
 | c::cs,_,_,_,⟨y,ys,e,h1,h2⟩,k=>⟨y,ys++_,by rw [e];rfl,h1,RelVs.app h2 k⟩
theorem RelVs.len:∀{cs:List TD} {vs:List Value},RelVs fs cs vs→vs.length=cs.length
 | [],_,h=>by have h:_=_:=h;rw [h];rfl
 | c::cs,_,⟨y,ys,e,h1,h2⟩=>by rw [e,List.length_cons,List.length_cons,RelVs.len h2]
theorem RelVs.take:∀{cs:List TD} {vs:List Value} (n:Nat),RelVs fs cs vs→RelVs fs (cs.take n) (vs.take n)
 | [],_,n,h=>by have h:_=_:=h;rw [h];simp;exact rfl
 | c::cs,_,0,h=>by simp;exact rfl
 | c::cs,_,n+1,⟨y,ys,e,h1,h2⟩=>by rw [e];exact ⟨y,ys.take n,rfl,h1,RelVs.take n h2⟩
theorem RelVs.drop:∀{cs:List TD} {vs:List Value} (n:Nat),RelVs fs cs vs→RelVs fs (cs.drop n) (vs.drop n)
 | [],_,n,h=>by have h:_=_:=h;rw [h];simp;exact rfl
 | c::cs,_,0,h=>h
 | c::cs,_,n+1,⟨y,ys,e,h1,h2⟩=>by rw [e];exact RelVs.drop n h2
theorem lieV_row {e:Sh} {x:List (Den e)} {vs:List Value} (h:LieV (inF fs) (.row e) x vs):∃y,vs=[y]∧RelV fs (.d e x) y:=by
 obtain ⟨a,n,c,xs,e1,e2,e3,k,r⟩:=h
 exact ⟨.slice a n c,e1,a,n,c,xs,rfl,e2,e3,k,r⟩
mutual
theorem cellsD_rel:∀{s:Sh} {x:Den s} {vs:List Value},LieV (inF fs) s x vs→RelVs fs (cellsD s x) vs
 | .int,x,vs,h=>⟨_,[],h,rfl,rfl⟩
 | .bool,x,vs,h=>⟨_,[],h,rfl,rfl⟩
 | .str,x,vs,h=>⟨_,[],h,rfl,rfl⟩
 | .num _,x,vs,h=>⟨_,[],h.1,rfl,rfl⟩
 | .flat l,x,vs,h=>cellsDL_rel (l:=l) h
 | .row e,x,vs,h=>by
  obtain ⟨y,e1,k⟩:=lieV_row h
  exact ⟨y,[],e1,k,rfl⟩
theorem cellsDL_rel:∀{l:List Sh} {x:DenL l} {vs:List Value},LieL (inF fs) l x vs→RelVs fs (cellsDL l x) vs
 | [],x,vs,h=>h
 | s::l,x,vs,⟨v1,v2,e,k1,k2⟩=>by rw [e];exact RelVs.app (cellsD_rel (s:=s) k1) (cellsDL_rel (l:=l) k2)
end
theorem castB_rel {s e:Sh} {L:List (Den s)} {K:List (Den e)} (h:Sh.castB s e L=some K) {y:Value} (k:RelV fs (.d s L) y):RelV fs (.d e K) y:=by
 unfold Sh.castB at h
 split at h
 ·rename_i hb
  have he:=Sh.eq_of hb
  subst he
  simp at h
  subst h
  exact k
 ·cases h
mutual
theorem packD_rel:∀{s:Sh} {cs:List TD} {x:Den s} {r:List TD} {vs:List Value},packD s cs=some (x,r)→RelVs fs cs vs→∃v1 v2,vs=v1++v2∧LieV (inF fs) s x v1∧RelVs fs r v2
 | .int,cs,x,r,vs,h,k=>by
  match cs,h,k with
  | .v (.int .i64 z)::cs,h,⟨y,ys,e,h1,h2⟩=>
   cases h
   exact ⟨[y],ys,e,congrArg (fun q=>[q]) h1,h2⟩
 | .bool,cs,x,r,vs,h,k=>by
  match cs,h,k with
  | .v (.bool z)::cs,h,⟨y,ys,e,h1,h2⟩=>
   cases h
   exact ⟨[y],ys,e,congrArg (fun q=>[q]) h1,h2⟩
 | .str,cs,x,r,vs,h,k=>by
  match cs,h,k with
  | .v (.string z)::cs,h,⟨y,ys,e,h1,h2⟩=>
   cases h
   exact ⟨[y],ys,e,congrArg (fun q=>[q]) h1,h2⟩
 | .num _,cs,x,r,vs,h,k=>by
  match cs,h,k with
  | .v z::cs,h,⟨y,ys,e,h1,h2⟩=>
   have h:(bif Value.oneCell' z then some (z,cs) else none)=some (x,r):=h
   cases hz:z.oneCell' with
   | false=>rw [hz] at h;cases h
   | true=>
    rw [hz] at h
    cases h
    exact ⟨[y],ys,e,⟨congrArg (fun q=>[q]) h1,hz⟩,h2⟩
 | .flat l,cs,x,r,vs,h,k=>packL_rel (l:=l) h k
 | .row e,cs,x,r,vs,h,k=>by
  match cs,h,k with
  | .d s L::cs,h,⟨y,ys,e1,h1,h2⟩=>
   have h:(Sh.castB s e L).map (fun L=>(L,cs))=some (x,r):=h
   cases hK:Sh.castB s e L with
   | none=>rw [hK] at h;cases h
   | some K=>
    rw [hK] at h
    cases h
    exact ⟨[y],ys,e1,castB_rel hK h1,h2⟩
  | .v (.slice none 0 0)::cs,h,⟨y,ys,e1,h1,h2⟩=>
   cases h
   have h1:y=.slice none 0 0:=h1
   exact ⟨[y],ys,e1,⟨none,0,0,[],by rw [h1],⟨Nat.le_refl _,Nat.zero_le _,fun _=>⟨rfl,rfl⟩⟩,rfl,rfl,.inl rfl⟩,h2⟩
theorem packL_rel:∀{l:List Sh} {cs:List TD} {x:DenL l} {r:List TD} {vs:List Value},packL l cs=some (x,r)→RelVs fs cs vs→∃v1 v2,vs=v1++v2∧LieL (inF fs) l x v1∧RelVs fs r v2
 | [],cs,x,r,vs,h,k=>by
  cases h
  exact ⟨[],vs,rfl,rfl,k⟩
 | s::l,cs,x,r,vs,h,k=>by
  simp only [packL] at h
  split at h
  ·rename_i x1 r1 e1
   split at h
   ·rename_i x2 r2 e2
    cases h
    obtain ⟨v1,v2,e3,k1,k2⟩:=packD_rel (s:=s) e1 k
    obtain ⟨v3,v4,e4,k3,k4⟩:=packL_rel (l:=l) e2 k2
    exact ⟨v1++v3,v4,by rw [e3,e4,List.append_assoc],⟨v1,v3,rfl,k1,k3⟩,k4⟩
   ·cases h
  ·cases h
end
end
end Go.Proofs.YtdbjakibneeeiaaGreatDoor.Sx
namespace Go.Proofs.YtdbjakibneeeiaaGreatDoor.Sx
open Go.RowKit
variable {Ob : Nat → Prop}
abbrev DK:=MD→List TD→TD→Prop
def dsub (cs:List TD) (off n:Nat):List TD:=(cs.drop off).take n
def dtake (ag:Option Nat) (cs:List TD) (off:Nat):Option TD:=match ag with
 | none=>match nth cs off with
  | some .any=>none
  | some x=>some x
  | none=>none
 | some n=>bif dvals (dsub cs off n)&&(dsub cs off n).length==n then some (.g (dsub cs off n)) else none
def dload (E:Env) (st:Bool) (ty:TypeId) (a:TD) (md0 md:MD) (td:List TD) (k:DK):Prop:=
 match lk E.agg ty with
 | none=>False
 | some ag=>match a with
  | .p b off=>match (md0.own[b]?).join with
   | some (cs,_)=>match dtake ag cs off with
    | some x=>k md td x
    | none=>False
   | none=>False
  | .q i sz j off=>match (md0.rows[i]?).join with
   | some r=>match dtake ag (cellsD r.s (r.l.getD j (Sh.z r.s))) off with
    | some x=>(bif sz==r.size then True else False)∧j<r.l.length∧k md td x
    | none=>False
   | none=>False
  | .e s L j off=>match dtake ag (cellsD s (L.getD j (Sh.z s))) off with
   | some x=>(bif st then True else False)∧j<L.length∧k md td x
   | none=>False
  | _=>False
section
variable {P : Program} {W : World} {G : Option Nat} {Q : Ending → World → Prop} {E : Env} {ds : List Deferred}
theorem add_at {A ad:Addr} {k:Nat} (h0:A.spot=none) (hb:ad.block=A.block) (ho:ad.off=A.off+k) (hs:A.spot=none→ad.spot=none) (j:Nat):ad.add j=A.add (k+j):=by
 obtain ⟨b,o,s⟩:=A
 obtain ⟨b',o',s'⟩:=ad
 simp only at hb ho h0 hs
 subst hb ho h0
 obtain rfl:s'=none:=hs rfl
 unfold Addr.add
 by_cases h1:j=0 <;> by_cases h2:k+j=0 <;> simp_all <;> omega
theorem at_inF {m:M} {β ρ} {w:World} (hM:Mem W G m β ρ w):∀a xs,inF m.facts a xs→At w a xs:=fun a xs h=>by
 rcases h with rfl | ⟨φ,h1,h2,h3⟩
 ·exact fun g hg=>by cases hg
 ·intro g hg
  obtain ⟨_,o,ho,hh⟩:=hM.fact φ h1 g (h2.trans hg)
  exact ⟨o,ho,h3 o hh⟩
theorem mem_cell {m:M} {β ρ} {w:World} (hM:Mem W G m β ρ w) {A ad:Addr} {xs:List Value} {k:Nat} (hm:inF m.facts (some A) xs) (hb:ad.block=A.block) (ho:ad.off=A.off+k) (hs:A.spot=none→ad.spot=none) {j:Nat} {u:Value} (hu:xs[k+j]?=some u):w.cell? (ad.add j)=some u:=by
 have h1:At w (some A) xs:=at_inF hM _ _ hm
 obtain ⟨o,_,ho'⟩:=h1 A.block rfl
 have h0:A.spot=none:=(ho' A rfl).1
 rw [add_at h0 hb ho hs]
 exact h1.cell hu
theorem relVs_at {fs:List Fact}:∀{cs:List TD} {vs:List Value} {off:Nat} {y:TD},RelVs fs cs vs→cs[off]?=some y→∃u,vs[off]?=some u∧RelV fs y u
 | [],_,_,_,_,h=>by simp at h
 | c::cs,_,0,y,⟨z,zs,e,h1,h2⟩,h=>by
  obtain rfl:c=y:=by simpa using h
  exact ⟨z,by rw [e];rfl,h1⟩
 | c::cs,_,off+1,y,⟨z,zs,e,h1,h2⟩,h=>by
  obtain ⟨u,hu,hr⟩:=relVs_at h2 (off:=off) (by simpa using h)
  exact ⟨u,by rw [e];exact hu,hr⟩
theorem dtake_vals {fs:List Fact} {cs:List TD} {vs:List Value} (h:RelVs fs cs vs) {ag:Option Nat} {off:Nat} {x:TD} (hx:dtake ag cs off=some x) :
  match ag with
  | none=>∃u,vs[off]?=some u∧RelV fs x u
  | some n=>((vs.drop off).take n).length=n∧RelV fs x (.agg ((vs.drop off).take n).toArray):=by
 cases ag with
 | none=>
  simp only [dtake,nth_eq] at hx
  cases hc:cs[off]? with
  | none=>rw [hc] at hx;cases hx
  | some y=>
   rw [hc] at hx
   have hy:y=x:=by
    cases y <;> first | (simp at hx;done) | exact Option.some.inj hx
   subst hy
   exact relVs_at h hc
 | some n=>
  simp only [dtake] at hx
  cases hb:(dvals (dsub cs off n)&&(dsub cs off n).length==n) with
  | false=>rw [hb] at hx;cases hx
  | true=>
   rw [hb] at hx
   cases hx
   simp only [Bool.and_eq_true,beq_iff_eq] at hb
   have h3:RelVs fs (dsub cs off n) ((vs.drop off).take n):=(h.drop off).take n
   exact ⟨by rw [h3.len];exact hb.2,_,rfl,h3⟩
theorem getD_at {α:Type} {l:List α} {j:Nat} {z:α} (h:j<l.length):l[j]?=some (l.getD j z):=by
 rw [List.getD_eq_getElem?_getD,List.getElem?_eq_getElem h];rfl
theorem sub_get {xs us:List Value} {o:Nat} (h:∀(i:Nat) (u:Value),us[i]?=some u→xs[o+i]?=some u) {off n:Nat}:∀(i:Nat) (u:Value),((us.drop off).take n)[i]?=some u→xs[o+off+i]?=some u:=fun i u hu=>by
 rw [List.getElem?_take] at hu
 split at hu
 ·rw [List.getElem?_drop] at hu
  rw [Nat.add_assoc]
  exact h _ u hu
 ·cases hu
theorem dload_sound (hE:E.Ok P) {o:Oper} {ty:TypeId} {a:Operand} (ho:o.op=.load ty a) {fs fs0:List Fact} {st:Bool} {md0 md:MD} {m0 m:M} {td:List TD} {t:List T} {kd:DK} {k:M→List T→T→Tree}
  (h0:RM Ob fs0 md0 m0) (hsub:∀φ∈fs0,φ∈fs) (hst:st=true→fs0=fs) (hm:RM Ob fs md m) (ht:RTs fs td t) (h:dload E st ty (dev td a) md0 md td kd)
  (K:∀xd x,RelT fs xd x→kd md td xd→(k m t x).wpD P W G Q ds):(step0 E o m0 m t k).wpD P W G Q ds:=by
 have ha:=ht.ev a
 simp only [step0,ho]
 unfold dload at h
 cases hag:lk E.agg ty with
 | none=>rw [hag] at h;exact h.elim
 | some ag=>
  rw [hag] at h
  simp only at h
  cases hd:dev td a with
  | p b off=>
   rw [hd] at h ha
   have ha:ev t a=.p b off:=ha
   rw [ha]
   simp only at h ⊢
   cases hb:(md0.own[b]?).join with
   | none=>rw [hb] at h;exact h.elim
   | some q=>
    obtain ⟨cs,e⟩:=q
    rw [hb] at h
    simp only at h
    cases hx:dtake ag cs off with
    | none=>rw [hx] at h;exact h.elim
    | some x=>
     rw [hx] at h
     obtain ⟨ts,hts,hr⟩:=h0.own b cs e (Option.join_eq_some_iff.1 hb)
     have hc:m0.cells b=some (ts,e):=by unfold M.cells;rw [hts];rfl
     rw [hc]
     cases ag with
     | none=>
      simp only [dtake,nth_eq] at hx
      cases hy:cs[off]? with
      | none=>rw [hy] at hx;cases hx
      | some y=>
       rw [hy] at hx
       have hyx:y=x∧y≠.any:=by
        cases y <;> first | (simp at hx;done) | exact ⟨Option.some.inj hx,by simp⟩
       obtain ⟨rfl,hna⟩:=hyx
       obtain ⟨u,hu,hur⟩:=hr.2 off y hy
       simp only [nth_eq,hu]
       cases u with
       | any=>
        cases y with
        | any=>exact absurd rfl hna
        | p _ _=>cases hur
        | fn _ _=>cases hur
        | s _ _=>cases hur
        | r _=>cases hur
        | q _ _ _ _=>cases hur
        | v _=>cases hur
        | e _ _ _ _=>obtain ⟨_,_,_,e,_⟩:=hur;cases e
        | d _ _=>obtain ⟨_,e,_⟩:=hur;cases e
        | g _=>obtain ⟨_,e,_⟩:=hur;cases e
        | u _=>obtain ⟨_,e,_⟩:=hur;cases e
       | _=>exact K _ _ (hur.mono hsub) h
     | some n=>
      simp only [dtake] at hx
      cases hb2:(dvals (dsub cs off n)&&(dsub cs off n).length==n) with
      | false=>rw [hb2] at hx;cases hx
      | true=>
       rw [hb2] at hx
       cases hx
       simp only [Bool.and_eq_true,beq_iff_eq] at hb2
       obtain ⟨vs,e1,e2,e3⟩:=dvals_rel ((hr.drop off).take n) hb2.1
       simp only [e1]
       have hl:vs.length=n:=by rw [e2.len];exact hb2.2
       simp only [hl,beq_self_eq_true,cond_true]
       exact K (.g (dsub cs off n)) _ ⟨_,rfl,vs,rfl,e2.mono hsub⟩ h
  | q i sz j off=>
   rw [hd] at h ha
   have ha:ev t a=.q i (j*sz+off):=ha
   rw [ha]
   simp only at h ⊢
   cases hb:(md0.rows[i]?).join with
   | none=>rw [hb] at h;exact h.elim
   | some r=>
    rw [hb] at h
    simp only at h
    cases hx:dtake ag (cellsD r.s (r.l.getD j (Sh.z r.s))) off with
    | none=>rw [hx] at h;exact h.elim
    | some x=>
     rw [hx] at h
     simp only at h
     obtain ⟨h1,h2,h⟩:=h
     have hsz:sz=r.size:=by
      cases hq:sz==r.size with
      | true=>exact eq_of_beq hq
      | false=>rw [hq] at h1;exact h1.elim
     obtain ⟨xs,hxs,hz,hl⟩:=h0.row i r (Option.join_eq_some_iff.1 hb)
     rw [hxs]
     obtain ⟨us,hus,hat⟩:=hl.at (fun x vs=>LieV.len (s:=r.s)) (getD_at (z:=Sh.z r.s) h2)
     rw [← hz,← hsz] at hat
     have hcr:=cellsD_rel (s:=r.s) hus
     have hk:=dtake_vals hcr hx
     cases ag with
     | none=>
      obtain ⟨u,hu,hur⟩:=hk
      exact ⟨[u],rfl,fun i' u' hu'=>by
       cases i' with
       | zero=>
        obtain rfl:u=u':=by simpa using hu'
        exact hat off u hu
       | succ i'=>simp at hu',K _ _ (relT_v (hur.mono hsub)) h⟩
     | some n=>
      obtain ⟨hn,hur⟩:=hk
      exact ⟨(us.drop off).take n,hn,fun i' u' hu'=>sub_get hat i' u' hu',K _ _ (relT_v (hur.mono hsub)) h⟩
  | e s L j off=>
   rw [hd] at h ha
   simp only at h
   cases hx:dtake ag (cellsD s (L.getD j (Sh.z s))) off with
   | none=>rw [hx] at h;exact h.elim
   | some x=>
    rw [hx] at h
    simp only at h
    obtain ⟨h1,h2,h⟩:=h
    have hst:=hst (by cases st;exact h1.elim;rfl)
    obtain ⟨A,xs,ad,e1,hl,hf,hb,hoff,hs⟩:=ha
    rw [e1]
    simp only
    obtain ⟨us,hus,hat⟩:=hl.at (fun x vs=>LieV.len (s:=s)) (getD_at (z:=Sh.z s) h2)
    have hk:=dtake_vals (cellsD_rel (s:=s) hus) hx
    have hf0:inF m0.facts (some A) xs:=by rw [h0.fe,hst];exact hf
    cases ag with
    | none=>
     obtain ⟨u,hu,hur⟩:=hk
     refine ⟨u,fun β ρ w hM=>?_,K _ _ (relT_v hur) h⟩
     rw [hE.agg1 ty hag]
     have:=mem_cell hM hf0 (k:=j*s.size+off) (j:=0) hb (by have h9:ad.off=_:=hoff;omega) hs (by rw [Nat.add_zero];exact hat off u hu)
     have h9:w.cell? ad=some u:=this
     simp [load,Sem.run,h9]
    | some n=>
     obtain ⟨hn,hur⟩:=hk
     refine ⟨.agg ((us.drop off).take n).toArray,fun β ρ w hM=>?_,K _ _ (relT_v hur) h⟩
     exact hE.aggN ty n hag ad w _ hn fun i' u' hu'=>mem_cell hM hf0 hb (by have h9:ad.off=_:=hoff;omega) hs (sub_get hat i' u' hu')
  | _=>rw [hd] at h;exact h.elim
end
end Go.Proofs.YtdbjakibneeeiaaGreatDoor.Sx
namespace Go.Proofs.YtdbjakibneeeiaaGreatDoor.Sx
open Go.RowKit
variable {Ob : Nat → Prop}
def dsubR (i:Nat) (x y:TD):TD:=match y with
 | .r j=>bif i==j then x else y
 | .q j _ _ _=>bif i==j then .any else y
 | y=>y
def dsubS (b n:Nat) (x y:TD):TD:=match y with
 | .s c k=>bif b==c&&n==k then x else y
 | y=>y
def MD.mapO (m:MD) (f:TD→TD):MD:=⟨m.own.map fun q=>q.map fun q=>(q.1.map f,q.2),m.rows⟩
def packN (s:Sh):Nat→List TD→Option (List (Den s))
 | 0,[]=>some []
 | 0,_::_=>none
 | n+1,cs=>match packD s cs with
  | some (x,r)=>match packN s n r with
   | some l=>some (x::l)
   | none=>none
  | none=>none
def dshare0 (sy:List (TypeId×Sh)) (x:TD) (md:MD) (td:List TD) (k:TD→MD→List TD→Prop):Prop:=
 match x with
 | .any=>False
 | .r i=>match (md.rows[i]?).join with
  | some r=>k (.d r.s r.l) (MD.mapO { md with rows:=md.rows.set i none } (dsubR i (.d r.s r.l))) (td.map (dsubR i (.d r.s r.l)))
  | none=>False
 | .s b n=>match (md.own[b]?).join with
  | some (cs,ty)=>match lk sy ty with
   | some s=>match packN s n cs with
    | some L=>bif dvals cs&&Nat.ble n 1000 then k (.d s L) (MD.mapO { md with own:=md.own.set b none } (dsubS b n (.d s L))) (td.map (dsubS b n (.d s L))) else False
    | none=>False
   | none=>False
  | none=>False
 | x=>k x md td
abbrev DM:=MD→List TD→Prop
def dshareIn (sy:List (TypeId×Sh)):List TD→MD→List TD→DM→Prop
 | [],md,td,k=>k md td
 | x::l,md,td,k=>dshare0 sy x md td (fun _ md td=>dshareIn sy l md td k)
def dshareOne (sy:List (TypeId×Sh)) (x:TD) (md:MD) (td:List TD) (k:TD→MD→List TD→Prop):Prop:=
 match x with
 | .s b n=>match (md.own[b]?).join with
  | some (cs,_)=>dshareIn sy cs md td (fun md td=>dshare0 sy (.s b n) md td k)
  | none=>False
 | x=>dshare0 sy x md td k
def dshareAll (sy:List (TypeId×Sh)):List TD→MD→List TD→(List TD→MD→List TD→Prop)→Prop
 | [],md,td,k=>k [] md td
 | x::l,md,td,k=>dshareOne sy x md td (fun y md td=>dshareAll sy l md td (fun ys md td=>k (y::ys) md td))
section
variable {P : Program} {W : World} {G : Option Nat} {Q : Ending → World → Prop} {ds : List Deferred} {sy : List (TypeId × Sh)}
theorem RTs.map {fs fs':List Fact} {td:List TD} {t:List T} (h:RTs fs td t) {f:TD→TD} {g:T→T} (hfg:∀x y,RelT fs x y→RelT fs' (f x) (g y)):RTs fs' (td.map f) (t.map g):=by
 refine ⟨by simp [h.1],fun i c hc=>?_⟩
 rw [List.getElem?_map] at hc ⊢
 cases hi:td[i]? with
 | none=>rw [hi] at hc;cases hc
 | some x=>
  rw [hi] at hc
  obtain ⟨y,hy,hr⟩:=h.2 i x hi
  rw [hy]
  obtain rfl:f x=c:=Option.some.inj hc
  exact ⟨g y,rfl,hfg _ _ hr⟩
theorem RM.mapO {fs fs':List Fact} {md:MD} {m:M} (h:RM Ob fs md m) {f:TD→TD} {g:T→T} (hfg:∀x y,RelT fs x y→RelT fs' (f x) (g y)) (gs:List Fact) (e:fs'=gs++fs) (ho:∀φ∈gs,∀g,φ.g=some g→Ob g):RM Ob fs' (md.mapO f) (M.mapOwn { m with facts:=gs++m.facts } g) where
 fe:=by rw [e,← h.fe];rfl
 ob φ hφ:=by rw [e] at hφ;exact (List.mem_append.1 hφ).elim (ho φ) (h.ob φ)
 ol:=by simp [MD.mapO,M.mapOwn,h.ol]
 own b cs ty hb:=by
  simp only [MD.mapO,List.getElem?_map] at hb
  cases hq:md.own[b]? with
  | none=>rw [hq] at hb;cases hb
  | some q=>
   rw [hq] at hb
   cases q with
   | none=>cases hb
   | some q=>
    obtain ⟨cs0,ty0⟩:=q
    simp at hb
    obtain ⟨rfl,rfl⟩:=hb
    obtain ⟨ts,h1,h2⟩:=h.own b cs0 ty0 hq
    exact ⟨ts.map g,by simp [M.mapOwn,h1],h2.map hfg⟩
 rl:=h.rl
 row i r hr:=by
  obtain ⟨xs,h1,h2,h3⟩:=h.row i r hr
  exact ⟨xs,h1,h2,LieN.mono (fun x vs=>LieV.mono (s:=r.s) (fun _ _=>inF.mono (by rw [e];exact fun φ hφ=>List.mem_append_right _ hφ))) h3⟩
theorem dsubR_rel {fs fs':List Fact} (hs:∀φ∈fs,φ∈fs') (i:Nat) {X:TD} {Y:T} (hX:RelT fs' X Y):∀x y,RelT fs x y→RelT fs' (dsubR i X x) (subR i Y y):=fun x y h=>by
 cases x with
 | r j=>
  have h:y=.r j:=h
  subst h
  show RelT fs' (bif i==j then X else .r j) (bif i==j then Y else .r j)
  cases i==j with
  | true=>exact hX
  | false=>exact rfl
 | q j a b c=>
  have h:y=.q j (b*a+c):=h
  subst h
  show RelT fs' (bif i==j then .any else .q j a b c) (bif i==j then .any else _)
  cases i==j with
  | true=>exact trivial
  | false=>exact rfl
 | any=>exact trivial
 | p b o=>have h:y=_:=h;subst h;exact rfl
 | fn f c=>have h:y=_:=h;subst h;exact rfl
 | s b n=>have h:y=_:=h;subst h;exact rfl
 | v x=>have h:y=_:=h;subst h;exact rfl
 | e s L j o=>have k:=h.mono hs;obtain ⟨A,xs,ad,e,_⟩:=h;subst e;exact k
 | d s L=>have k:=h.mono hs;obtain ⟨z,e,_⟩:=h;subst e;exact k
 | g cs=>have k:=h.mono hs;obtain ⟨z,e,_⟩:=h;subst e;exact k
 | u cs=>have k:=h.mono hs;obtain ⟨z,e,_⟩:=h;subst e;exact k
theorem dsubS_rel {fs fs':List Fact} (hs:∀φ∈fs,φ∈fs') (b n:Nat) {X:TD} {Y:T} (hX:RelT fs' X Y):∀x y,RelT fs x y→RelT fs' (dsubS b n X x) (subS b n Y y):=fun x y h=>by
 cases x with
 | s c j=>
  have h:y=.s c j:=h
  subst h
  show RelT fs' (bif b==c&&n==j then X else .s c j) (bif b==c&&n==j then Y else .s c j)
  cases b==c&&n==j with
  | true=>exact hX
  | false=>exact rfl
 | any=>exact trivial
 | p b o=>have h:y=_:=h;subst h;exact rfl
 | fn f c=>have h:y=_:=h;subst h;exact rfl
 | r i=>have h:y=_:=h;subst h;exact rfl
 | q i a b c=>have h:y=_:=h;subst h;exact rfl
 | v x=>have h:y=_:=h;subst h;exact rfl
 | e s L j o=>have k:=h.mono hs;obtain ⟨A,xs,ad,e,_⟩:=h;subst e;exact k
 | d s L=>have k:=h.mono hs;obtain ⟨z,e,_⟩:=h;subst e;exact k
 | g cs=>have k:=h.mono hs;obtain ⟨z,e,_⟩:=h;subst e;exact k
 | u cs=>have k:=h.mono hs;obtain ⟨z,e,_⟩:=h;subst e;exact k
theorem packN_rel {fs:List Fact} {s:Sh}:∀{n:Nat} {cs:List TD} {L:List (Den s)} {vs:List Value},packN s n cs=some L→RelVs fs cs vs→L.length=n∧LieN (LieV (inF fs) s) L vs
 | 0,[],L,vs,h,k=>by
  cases h
  exact ⟨rfl,k⟩
 | 0,_::_,L,vs,h,k=>by cases h
 | n+1,cs,L,vs,h,k=>by
  simp only [packN] at h
  split at h
  ·rename_i x r e1
   split at h
   ·rename_i l e2
    cases h
    obtain ⟨v1,v2,e3,k1,k2⟩:=packD_rel (s:=s) e1 k
    obtain ⟨h1,h2⟩:=packN_rel e2 k2
    exact ⟨by rw [List.length_cons,h1],v1,v2,e3,k1,h2⟩
   ·cases h
  ·cases h
theorem ob_fresh (hOb:∀g,W.heap.size≤g∨some g=G→Ob g) {a:Option Addr} {xs:List Value} (h:Fresh W G a):∀φ∈[rowF a xs],∀g,φ.g=some g→Ob g:=fun φ hφ g hg=>by
 simp only [List.mem_singleton] at hφ
 subst hφ
 cases a with
 | none=>cases hg
 | some ad=>exact hOb g (by have h1:=h ad rfl;obtain rfl:ad.block=g:=Option.some.inj hg;exact h1)
abbrev KX (Ob:Nat→Prop) (P:Program) (W:World) (G:Option Nat) (Q:Ending→World→Prop) (ds:List Deferred) (fs:List Fact) (kd:TD→MD→List TD→Prop) (k:T→M→List T→Tree):Prop:=∀fs' xd md td x m t,(∀φ∈fs,φ∈fs')→RelT fs' xd x→RM Ob fs' md m→RTs fs' td t→kd xd md td→(k x m t).wpD P W G Q ds
theorem rel_slice {fs:List Fact} {s:Sh} {L:List (Den s)} {xs:List Value} {a:Option Addr} {c:Nat} (hs:Sl a L.length c) (h:LieN (LieV (inF fs) s) L xs):RelT (rowF a xs::fs) (.d s L) (.v (.slice a L.length c)):=by
 refine ⟨_,rfl,a,_,c,xs,rfl,hs,rfl,LieN.mono (fun x vs=>LieV.mono (s:=s) (fun _ _=>inF.mono fun φ hφ=>.tail _ hφ)) h,?_⟩
 by_cases h0:L.length=0
 ·exact .inl (if_pos h0)
 ·exact .of (by rw [show pt a L.length=a from if_neg h0];exact .head _)
theorem dshare0_sound (hOb:∀g,W.heap.size≤g∨some g=G→Ob g) {fs:List Fact} {xd:TD} {x:T} {md:MD} {m:M} {td:List TD} {t:List T} {kd:TD→MD→List TD→Prop} {k:T→M→List T→Tree} (hx:RelT fs xd x) (hm:RM Ob fs md m) (ht:RTs fs td t)
  (h:dshare0 sy xd md td kd) (K:KX Ob P W G Q ds fs kd k):(share0 x m t k).wpD P W G Q ds:=by
 cases xd with
 | any=>exact h.elim
 | r i=>
  have hx:x=.r i:=hx
  subst hx
  simp only [dshare0] at h
  cases hr:(md.rows[i]?).join with
  | none=>rw [hr] at h;exact h.elim
  | some r=>
   rw [hr] at h
   obtain ⟨xs,hxs,hz,hl⟩:=hm.row i r (Option.join_eq_some_iff.1 hr)
   simp only [share0,hxs,Option.join_some]
   intro a c hSl hFr
   have hX:=rel_slice (s:=r.s) hSl hl
   have hsub:∀φ∈fs,φ∈rowF a xs::fs:=fun φ hφ=>.tail _ hφ
   have hm1:RM Ob fs { md with rows:=md.rows.set i none } { m with rows:=m.rows.set i none }:=
    { fe:=hm.fe,ob:=hm.ob,ol:=hm.ol,own:=hm.own,rl:=by simp [hm.rl],row:=fun j r' hj=>by
        simp only [List.getElem?_set] at hj ⊢
        by_cases e:i=j
        ·rw [if_pos e] at hj;split at hj <;> cases hj
        ·rw [if_neg e] at hj ⊢;exact hm.row j r' hj }
   exact K _ _ _ _ _ _ _ hsub hX (hm1.mapO (dsubR_rel hsub i hX) [rowF a xs] rfl (ob_fresh hOb hFr)) (ht.map (dsubR_rel hsub i hX)) h
 | s b n=>
  have hx:x=.s b n:=hx
  subst hx
  simp only [dshare0] at h
  cases hb:(md.own[b]?).join with
  | none=>rw [hb] at h;exact h.elim
  | some q=>
   obtain ⟨cs,ty⟩:=q
   rw [hb] at h
   simp only at h
   cases hs:lk sy ty with
   | none=>rw [hs] at h;exact h.elim
   | some s=>
    rw [hs] at h
    simp only at h
    cases hp:packN s n cs with
    | none=>rw [hp] at h;exact h.elim
    | some L=>
     rw [hp] at h
     simp only at h
     cases hq:(dvals cs&&Nat.ble n 1000) with
     | false=>rw [hq] at h;exact h.elim
     | true=>
      rw [hq] at h
      have h:kd _ _ _:=h
      rw [Bool.and_eq_true] at hq
      obtain ⟨ts,hts,hrel⟩:=hm.own b cs ty (Option.join_eq_some_iff.1 hb)
      obtain ⟨vs,e1,e2,e3⟩:=dvals_rel hrel hq.1
      obtain ⟨hn,hl⟩:=packN_rel hp e2
      subst hn
      simp only [share0,M.cells,hts,Option.join_some,e1,hq.2,cond_true]
      intro a c hSl hFr
      have hX:=rel_slice (s:=s) hSl hl
      have hsub:∀φ∈fs,φ∈rowF a vs::fs:=fun φ hφ=>.tail _ hφ
      have hm1:RM Ob fs { md with own:=md.own.set b none } { m with own:=m.own.set b none }:=
       { fe:=hm.fe,ob:=hm.ob,ol:=by simp [hm.ol],own:=fun j cs' ty' hj=>by
           simp only [List.getElem?_set] at hj ⊢
           by_cases e:b=j
           ·rw [if_pos e] at hj;split at hj <;> cases hj
           ·rw [if_neg e] at hj ⊢;exact hm.own j cs' ty' hj,rl:=hm.rl,row:=hm.row }
      exact K _ _ _ _ _ _ _ hsub hX (hm1.mapO (dsubS_rel hsub b _ hX) [rowF a vs] rfl (ob_fresh hOb hFr)) (ht.map (dsubS_rel hsub b _ hX)) h
 | p b o=>have hx:x=_:=hx;subst hx;exact K _ (.p b o) _ _ _ _ _ (fun _ h=>h) rfl hm ht h
 | fn f c=>have hx:x=_:=hx;subst hx;exact K _ (.fn f c) _ _ _ _ _ (fun _ h=>h) rfl hm ht h
 | q i a b c=>have hx:x=_:=hx;subst hx;exact K _ (.q i a b c) _ _ _ _ _ (fun _ h=>h) rfl hm ht h
 | v y=>have hx:x=_:=hx;subst hx;exact K _ (.v y) _ _ _ _ _ (fun _ h=>h) rfl hm ht h
 | e s L j o=>have hy:=hx;obtain ⟨A,xs,ad,e,_⟩:=hx;subst e;exact K _ _ _ _ _ _ _ (fun _ h=>h) hy hm ht h
 | d s L=>have hy:=hx;obtain ⟨z,e,_⟩:=hx;subst e;exact K _ _ _ _ _ _ _ (fun _ h=>h) hy hm ht h
 | g cs=>have hy:=hx;obtain ⟨z,e,_⟩:=hx;subst e;exact K _ _ _ _ _ _ _ (fun _ h=>h) hy hm ht h
 | u cs=>have hy:=hx;obtain ⟨z,e,_⟩:=hx;subst e;exact K _ _ _ _ _ _ _ (fun _ h=>h) hy hm ht h
theorem dshareIn_sound (hOb:∀g,W.heap.size≤g∨some g=G→Ob g) {kd:DM} {k:M→List T→Tree}:∀(cs:List TD) {fs:List Fact} (ts:List T) {md:MD} {m:M} {td:List TD} {t:List T},RTs fs cs ts→RM Ob fs md m→RTs fs td t→dshareIn sy cs md td kd→
  (∀fs' md td m t,(∀φ∈fs,φ∈fs')→RM Ob fs' md m→RTs fs' td t→kd md td→(k m t).wpD P W G Q ds)→(shareIn ts m t k).wpD P W G Q ds
 | [],fs,ts,md,m,td,t,hc,hm,ht,h,K=>by
  have:ts=[]:=List.eq_nil_of_length_eq_zero (by simpa using hc.1.symm)
  subst this
  exact K _ _ _ _ _ (fun _ h=>h) hm ht h
 | c::cs,fs,ts,md,m,td,t,hc,hm,ht,h,K=>by
  obtain ⟨u,us,rfl,h1,h2⟩:=hc.tail
  refine dshare0_sound hOb h1 hm ht h fun fs' xd md' td' x m' t' hs _ hm' ht' h'=>?_
  exact dshareIn_sound hOb cs us (h2.mono hs) hm' ht' h' fun fs2 md2 td2 m2 t2 hs2=>K fs2 md2 td2 m2 t2 (fun φ hφ=>hs2 _ (hs _ hφ))
theorem dshareOne_sound (hOb:∀g,W.heap.size≤g∨some g=G→Ob g) {fs:List Fact} {xd:TD} {x:T} {md:MD} {m:M} {td:List TD} {t:List T} {kd:TD→MD→List TD→Prop} {k:T→M→List T→Tree} (hx:RelT fs xd x) (hm:RM Ob fs md m) (ht:RTs fs td t)
  (h:dshareOne sy xd md td kd) (K:KX Ob P W G Q ds fs kd k):(shareOne x m t k).wpD P W G Q ds:=by
 cases xd with
 | s b n=>
  have hx:x=.s b n:=hx
  subst hx
  simp only [dshareOne] at h
  cases hb:(md.own[b]?).join with
  | none=>rw [hb] at h;exact h.elim
  | some q=>
   obtain ⟨cs,ty⟩:=q
   rw [hb] at h
   obtain ⟨ts,hts,hrel⟩:=hm.own b cs ty (Option.join_eq_some_iff.1 hb)
   simp only [shareOne,M.cells,hts,Option.join_some]
   refine dshareIn_sound hOb cs ts hrel hm ht h fun fs' md' td' m' t' hs hm' ht' h'=>?_
   exact dshare0_sound hOb (sy:=sy) (xd:=.s b n) rfl hm' ht' h' fun fs2 xd2 md2 td2 x2 m2 t2 hs2=>K fs2 xd2 md2 td2 x2 m2 t2 (fun φ hφ=>hs2 _ (hs _ hφ))
 | any=>exact h.elim
 | r i=>have e:x=_:=hx;subst e;exact dshare0_sound hOb (sy:=sy) (xd:=.r i) rfl hm ht h K
 | p b o=>have e:x=_:=hx;subst e;exact dshare0_sound hOb (sy:=sy) (xd:=.p b o) rfl hm ht h K
 | fn f c=>have e:x=_:=hx;subst e;exact dshare0_sound hOb (sy:=sy) (xd:=.fn f c) rfl hm ht h K
 | q i a b c=>have e:x=_:=hx;subst e;exact dshare0_sound hOb (sy:=sy) (xd:=.q i a b c) rfl hm ht h K
 | v y=>have e:x=_:=hx;subst e;exact dshare0_sound hOb (sy:=sy) (xd:=.v y) rfl hm ht h K
 | e s L j o=>have hy:=hx;obtain ⟨A,xs,ad,e,_⟩:=hx;subst e;exact dshare0_sound hOb (sy:=sy) hy hm ht h K
 | d s L=>have hy:=hx;obtain ⟨z,e,_⟩:=hx;subst e;exact dshare0_sound hOb (sy:=sy) hy hm ht h K
 | g cs=>have hy:=hx;obtain ⟨z,e,_⟩:=hx;subst e;exact dshare0_sound hOb (sy:=sy) hy hm ht h K
 | u cs=>have hy:=hx;obtain ⟨z,e,_⟩:=hx;subst e;exact dshare0_sound hOb (sy:=sy) hy hm ht h K
theorem dshareAll_sound (hOb:∀g,W.heap.size≤g∨some g=G→Ob g) {kd:List TD→MD→List TD→Prop} {k:List T→M→List T→Tree}:∀(cs:List TD) {fs:List Fact} (ts:List T) {md:MD} {m:M} {td:List TD} {t:List T},RTs fs cs ts→RM Ob fs md m→RTs fs td t→dshareAll sy cs md td kd→
  (∀fs' cs' md td ts' m t,(∀φ∈fs,φ∈fs')→RTs fs' cs' ts'→RM Ob fs' md m→RTs fs' td t→kd cs' md td→(k ts' m t).wpD P W G Q ds)→(shareAll ts m t k).wpD P W G Q ds
 | [],fs,ts,md,m,td,t,hc,hm,ht,h,K=>by
  have:ts=[]:=List.eq_nil_of_length_eq_zero (by simpa using hc.1.symm)
  subst this
  exact K _ _ _ _ _ _ _ (fun _ h=>h) RTs.nil hm ht h
 | c::cs,fs,ts,md,m,td,t,hc,hm,ht,h,K=>by
  obtain ⟨u,us,rfl,h1,h2⟩:=hc.tail
  refine dshareOne_sound hOb h1 hm ht h fun fs' xd md' td' x m' t' hs hx hm' ht' h'=>?_
  exact dshareAll_sound hOb (kd:=fun ys md td=>kd (xd::ys) md td) cs us (h2.mono hs) hm' ht' h' fun fs2 cs2 md2 td2 ts2 m2 t2 hs2 hc2 hm2 ht2 h2=>K fs2 (xd::cs2) md2 td2 (x::ts2) m2 t2 (fun φ hφ=>hs2 _ (hs _ hφ)) (RTs.cons (hx.mono hs2) hc2) hm2 ht2 h2
end
end Go.Proofs.YtdbjakibneeeiaaGreatDoor.Sx
namespace Go.Proofs.YtdbjakibneeeiaaGreatDoor.Sx
open Go.RowKit
variable {Ob : Nat → Prop}
def tdOf:(s:Sh)→Den s→TD
 | .flat l,x=>.g (cellsDL l x)
 | .int,x=>.v (.int .i64 x)
 | .bool,x=>.v (.bool x)
 | .str,x=>.v (.string x)
 | .num _,x=>.v x
 | .row e,x=>.d e x
def tdsOf:(l:List Sh)→DenL l→List TD
 | [],_=>[]
 | s::l,x=>tdOf s x.1::tdsOf l x.2
def resTD:(l:List Sh)→DenL l→TD
 | [s],x=>tdOf s x.1
 | l,x=>.u (tdsOf l x)
def packT:(s:Sh)→TD→Option (Den s)
 | .flat l,.g cs=>match packL l cs with
  | some (x,[])=>some x
  | _=>none
 | .flat _,_=>none
 | .int,t=>match packD .int [t] with
  | some (x,_)=>some x
  | none=>none
 | .bool,t=>match packD .bool [t] with
  | some (x,_)=>some x
  | none=>none
 | .str,t=>match packD .str [t] with
  | some (x,_)=>some x
  | none=>none
 | .num k,t=>match packD (.num k) [t] with
  | some (x,_)=>some x
  | none=>none
 | .row e,t=>match packD (.row e) [t] with
  | some (x,_)=>some x
  | none=>none
def packA:(l:List Sh)→List TD→Option (DenL l)
 | [],[]=>some ()
 | s::l,t::ts=>match packT s t with
  | some x=>match packA l ts with
   | some y=>some (x,y)
   | none=>none
  | none=>none
 | _,_=>none
def LieT (R:Option Addr→List Value→Prop):(s:Sh)→Den s→Value→Prop
 | .flat l,x,y=>∃cs:List Value,y=.agg cs.toArray∧LieL R l x cs
 | .int,x,y=>y=.int .i64 x
 | .bool,x,y=>y=.bool x
 | .str,x,y=>y=.string x
 | .num _,x,y=>y=x∧Value.oneCell' x=true
 | .row e,x,y=>LieV R (.row e) x [y]
def LieA (R:Option Addr→List Value→Prop):(l:List Sh)→DenL l→List Value→Prop
 | [],_,vs=>vs=[]
 | s::l,x,vs=>∃y us,vs=y::us∧LieT R s x.1 y∧LieA R l x.2 us
def AtO (w:World) (O:Nat→Prop) (a:Option Addr) (xs:List Value):Prop:=At w a xs∧∀g,a.map (·.block)=some g→O g
mutual
def SzV:(s:Sh)→Den s→Prop
 | .int,_=>True
 | .bool,_=>True
 | .str,_=>True
 | .num _,_=>True
 | .flat l,x=>SzL l x
 | .row e,L=>List.length (α:=Den e) L≤maxLen∧∀x:Den e,List.Mem x L→SzV e x
termination_by structural s=>s
def SzL:(l:List Sh)→DenL l→Prop
 | [],_=>True
 | s::l,x=>SzV s x.1∧SzL l x.2
termination_by structural l=>l
end
theorem lieN_mem {α:Type} {Q:α→List Value→Prop}:∀{L:List α} {vs:List Value},LieN Q L vs→∀x,List.Mem x L→∃v,Q x v
 | [],_,_,x,h=>by cases h
 | y::L,_,⟨v1,v2,e,h1,h2⟩,x,h=>by
  cases h with
  | head=>exact ⟨v1,h1⟩
  | tail _ h=>exact lieN_mem h2 x h
mutual
theorem LieV.sz {R:Option Addr→List Value→Prop}:∀{s:Sh} {x:Den s} {vs:List Value},LieV R s x vs→SzV s x
 | .int,_,_,_=>trivial
 | .bool,_,_,_=>trivial
 | .str,_,_,_=>trivial
 | .num _,_,_,_=>trivial
 | .flat l,_,_,h=>LieL.sz (l:=l) h
 | .row e,L,_,⟨a,n,c,xs,e1,e2,e3,h,r⟩=>⟨by have:=e2.1;have:=e2.2.1;rw [← e3];omega,fun x hx=>by obtain ⟨v,hv⟩:=lieN_mem h x hx;exact LieV.sz (s:=e) hv⟩
theorem LieL.sz {R:Option Addr→List Value→Prop}:∀{l:List Sh} {x:DenL l} {vs:List Value},LieL R l x vs→SzL l x
 | [],_,_,_=>trivial
 | s::l,_,_,⟨v1,v2,e,h1,h2⟩=>⟨LieV.sz (s:=s) h1,LieL.sz (l:=l) h2⟩
end
theorem LieT.sz {R:Option Addr→List Value→Prop} {s:Sh} {x:Den s} {y:Value} (h:LieT R s x y):SzV s x:=by
 cases s with
 | flat l=>obtain ⟨cs,_,h⟩:=h;exact LieL.sz (l:=l) h
 | row e=>exact LieV.sz (s:=.row e) h
 | _=>trivial
theorem LieA.sz {R:Option Addr→List Value→Prop}:∀{l:List Sh} {x:DenL l} {vs:List Value},LieA R l x vs→SzL l x
 | [],_,_,_=>trivial
 | s::l,_,_,⟨y,us,e,h1,h2⟩=>⟨h1.sz,LieA.sz h2⟩
structure Smry where
 ps:List Sh
 rs:List Sh
 pre:DenL ps→Prop
 F:DenL ps→DenL rs
structure Frsh where
 ps:List Sh
 s:Sh
 e:TypeId
 size:Nat
 pre:DenL ps→Prop
 F:DenL ps→List (Den s)
def Smry.Ok (P:Program) (B:World→Prop) (f:FuncId) (S:Smry):Prop:=
 ∀(O:Nat→Prop) (w:World) (x:DenL S.ps) (vs:List Value),B w→S.pre x→LieA (AtO w O) S.ps x vs→Calls P f (List.toArray vs) w fun e w'=>∃us,e=.returned (tup us)∧Below w.heap.size w w'∧LieA (AtO w' fun g=>w.heap.size≤g∨O g) S.rs (S.F x) us
def Frsh.Ok (P:Program) (B:World→Prop) (f:FuncId) (S:Frsh):Prop:=
 ∀(R:Option Addr→List Value→Prop) (w:World) (x:DenL S.ps) (vs:List Value),B w→S.pre x→(∀a xs,R a xs→At w a xs)→LieA R S.ps x vs→Calls P f (List.toArray vs) w fun e' w'=>∃v ys,e'=.returned v∧Below w.heap.size w w'∧w'.ownsRow w.heap.size S.e S.size v (S.F x).length ys∧LieN (LieV R S.s) (S.F x) ys
section
variable {R R' : Option Addr → List Value → Prop} {fs : List Fact}
theorem LieT.mono (h:∀a xs,R a xs→R' a xs) {s:Sh} {x:Den s} {y:Value} (k:LieT R s x y):LieT R' s x y:=by
 cases s with
 | flat l=>exact k.imp fun cs ⟨e,k⟩=>⟨e,LieL.mono h (l:=l) k⟩
 | row e=>exact LieV.mono h (s:=.row e) k
 | _=>exact k
theorem LieA.mono (h:∀a xs,R a xs→R' a xs):∀{l:List Sh} {x:DenL l} {vs:List Value},LieA R l x vs→LieA R' l x vs
 | [],_,_,k=>k
 | s::l,_,_,⟨y,us,e,k1,k2⟩=>⟨y,us,e,LieT.mono h k1,LieA.mono h k2⟩
theorem tdOf_rel {s:Sh} {x:Den s} {y:Value} (h:LieT (inF fs) s x y):RelV fs (tdOf s x) y:=by
 cases s with
 | flat l=>obtain ⟨cs,e,k⟩:=h;exact ⟨cs,e,cellsDL_rel (l:=l) k⟩
 | row e=>exact h
 | num _=>exact h.1
 | _=>exact h
theorem tdsOf_rel:∀{l:List Sh} {x:DenL l} {vs:List Value},LieA (inF fs) l x vs→RelVs fs (tdsOf l x) vs
 | [],_,_,k=>k
 | s::l,_,_,⟨y,us,e,k1,k2⟩=>⟨y,us,e,tdOf_rel k1,tdsOf_rel k2⟩
theorem resTD_rel {l:List Sh} {x:DenL l} {vs:List Value} (h:LieA (inF fs) l x vs):RelV fs (resTD l x) (tup vs):=by
 match l,x,h with
 | [],x,h=>exact ⟨vs,by have h:vs=[]:=h;rw [h];rfl,tdsOf_rel h⟩
 | [s],x,⟨y,us,e,k1,k2⟩=>
  have k2:us=[]:=k2
  rw [e,k2]
  exact tdOf_rel k1
 | s::s2::l,x,h=>
  obtain ⟨y,us,e,k1,y2,us2,e2,k2,k3⟩:=id h
  exact ⟨vs,by rw [e,e2];rfl,tdsOf_rel h⟩
theorem packT_rel {s:Sh} {t:TD} {x:Den s} {y:Value} (h:packT s t=some x) (k:RelV fs t y):LieT (inF fs) s x y:=by
 have one:∀{s:Sh} {x:Den s} {r:List TD},packD s [t]=some (x,r)→s.size=1→LieV (inF fs) s x [y]:=fun {s x r} h hz=>by
  obtain ⟨v1,v2,e,k1,k2⟩:=packD_rel (s:=s) h (⟨y,[],rfl,k,rfl⟩:RelVs fs [t] [y])
  have hl:=LieV.len (s:=s) k1
  rw [hz] at hl
  match v1,hl with
  | [z],_=>
   obtain rfl:y=z:=by simpa using congrArg List.head? e
   exact k1
 cases s with
 | flat l=>
  cases t with
  | g cs=>
   simp only [packT] at h
   split at h
   ·rename_i x' e1
    cases h
    obtain ⟨vs,e,k⟩:=k
    obtain ⟨v1,v2,e2,k1,k2⟩:=packL_rel (l:=l) e1 k
    have k2:v2=[]:=k2
    exact ⟨vs,e,by rw [e2,k2,List.append_nil];exact k1⟩
   ·cases h
  | _=>cases h
 | int=>
  simp only [packT] at h
  split at h
  ·rename_i x' r e1
   cases h
   have k1:=one e1 rfl
   show y=Value.int .i64 x
   simpa [LieV] using k1
  ·cases h
 | bool=>
  simp only [packT] at h
  split at h
  ·rename_i x' r e1
   cases h
   have k1:=one e1 rfl
   show y=Value.bool x
   simpa [LieV] using k1
  ·cases h
 | str=>
  simp only [packT] at h
  split at h
  ·rename_i x' r e1
   cases h
   have k1:=one e1 rfl
   show y=Value.string x
   simpa [LieV] using k1
  ·cases h
 | num q=>
  simp only [packT] at h
  split at h
  ·rename_i x' r e1
   cases h
   have k1:=one e1 rfl
   obtain ⟨k2,k3⟩:=k1
   exact ⟨(List.cons.inj k2).1,k3⟩
  ·cases h
 | row e=>
  simp only [packT] at h
  split at h
  ·rename_i x' r e1;cases h;exact one e1 rfl
  ·cases h
theorem packT_val {s:Sh} {t:TD} {x:Den s} (h:packT s t=some x):∀{u:T},RelT fs t u→∃y,u=.v y∧RelV fs t y:=fun {u} k=>by
 cases t with
 | v z=>exact ⟨z,k,rfl⟩
 | d s L=>exact k
 | g cs=>exact k
 | u cs=>exact k
 | any=>
  have:packT s .any=none:=by cases s <;> rfl
  rw [this] at h;cases h
 | p b o=>
  have:packT s (.p b o)=none:=by cases s <;> rfl
  rw [this] at h;cases h
 | fn f c=>
  have:packT s (.fn f c)=none:=by cases s <;> rfl
  rw [this] at h;cases h
 | s b n=>
  have:packT s (.s b n)=none:=by cases s <;> rfl
  rw [this] at h;cases h
 | r i=>
  have:packT s (.r i)=none:=by cases s <;> rfl
  rw [this] at h;cases h
 | q i z j o=>
  have:packT s (.q i z j o)=none:=by cases s <;> rfl
  rw [this] at h;cases h
 | e s2 L j o=>
  have:packT s (.e s2 L j o)=none:=by cases s <;> rfl
  rw [this] at h;cases h
theorem packA_rel:∀{l:List Sh} {cs:List TD} {x:DenL l} {ts:List T},packA l cs=some x→RTs fs cs ts→∃vs,ts=vs.map T.v∧LieA (inF fs) l x vs
 | [],[],x,ts,h,k=>by
  have:ts=[]:=List.eq_nil_of_length_eq_zero (by simpa using k.1.symm)
  exact ⟨[],this,rfl⟩
 | [],_::_,_,_,h,_=>by cases h
 | _::_,[],_,_,h,_=>by cases h
 | s::l,c::cs,x,ts,h,k=>by
  simp only [packA] at h
  split at h
  ·rename_i x1 e1
   split at h
   ·rename_i x2 e2
    cases h
    obtain ⟨t,us,rfl,h1,h2⟩:=k.tail
    obtain ⟨y,rfl,hy⟩:=packT_val e1 h1
    obtain ⟨vs,rfl,hv⟩:=packA_rel e2 h2
    exact ⟨y::vs,rfl,y,vs,rfl,packT_rel e1 hy,hv⟩
   ·cases h
  ·cases h
theorem rels_v {β ρ}:∀{vs us:List Value},Rels β ρ (vs.map T.v) us→us=vs
 | [],us,h=>List.eq_nil_of_length_eq_zero (by simpa using h.1)
 | v::vs,us,h=>by
  cases us with
  | nil=>have:=h.1;simp at this
  | cons u us=>
   obtain ⟨y,hy,hr⟩:=h.2 0 (.v v) rfl
   simp at hy
   subst hy
   have hr:u=v:=hr
   rw [hr,rels_v (vs:=vs) (us:=us) ⟨by have:=h.1;simpa using this,fun i x hx=>by obtain ⟨z,hz,hzr⟩:=h.2 (i+1) x (by simpa using hx);exact ⟨z,by simpa using hz,hzr⟩⟩]
def Got (R:Option Addr→List Value→Prop) (gs:List Fact):Prop:=∀φ∈gs,∃a xs,φ=rowF a xs∧R a xs
theorem Got.app {gs hs:List Fact} (h:Got R gs) (k:Got R hs):Got R (gs++hs):=fun φ hφ=>(List.mem_append.1 hφ).elim (h φ) (k φ)
theorem inl_app {gs hs:List Fact}:∀a xs,inF gs a xs→inF (gs++hs) a xs:=fun _ _=>inF.mono fun _ h=>List.mem_append_left _ h
theorem inr_app {gs hs:List Fact}:∀a xs,inF hs a xs→inF (gs++hs) a xs:=fun _ _=>inF.mono fun _ h=>List.mem_append_right _ h
mutual
theorem LieV.got:∀{s:Sh} {x:Den s} {vs:List Value},LieV R s x vs→∃gs,LieV (inF gs) s x vs∧Got R gs
 | .int,_,_,k=>⟨[],k,by simp [Got]⟩
 | .bool,_,_,k=>⟨[],k,by simp [Got]⟩
 | .str,_,_,k=>⟨[],k,by simp [Got]⟩
 | .num _,_,_,k=>⟨[],k,by simp [Got]⟩
 | .flat l,_,_,k=>LieL.got (l:=l) k
 | .row e,L,_,⟨a,n,c,xs,e1,e2,e3,k,r⟩=>by
  have key:∀{L:List (Den e)} {xs:List Value},LieN (LieV R e) L xs→∃gs,LieN (LieV (inF gs) e) L xs∧Got R gs:=by
   intro L
   induction L with
   | nil=>intro xs k;exact ⟨[],k,by simp [Got]⟩
   | cons z L ih=>
    intro xs ⟨v1,v2,e4,k1,k2⟩
    obtain ⟨gs,h1,h2⟩:=LieV.got (s:=e) k1
    obtain ⟨hs,h3,h4⟩:=ih k2
    exact ⟨gs++hs,⟨v1,v2,e4,LieV.mono (s:=e) inl_app h1,LieN.mono (fun x vs=>LieV.mono (s:=e) inr_app) h3⟩,h2.app h4⟩
  obtain ⟨gs,h1,h2⟩:=key k
  exact ⟨rowF (pt a n) xs::gs,⟨a,n,c,xs,e1,e2,e3,LieN.mono (fun x vs=>LieV.mono (s:=e) fun _ _=>inF.mono fun _ h=>.tail _ h) h1,.of (.head _)⟩,fun φ hφ=>(List.mem_cons.1 hφ).elim (fun e=>⟨_,_,e,r⟩) (h2 φ)⟩
theorem LieL.got:∀{l:List Sh} {x:DenL l} {vs:List Value},LieL R l x vs→∃gs,LieL (inF gs) l x vs∧Got R gs
 | [],_,_,k=>⟨[],k,by simp [Got]⟩
 | s::l,_,_,⟨v1,v2,e,k1,k2⟩=>by
  obtain ⟨gs,h1,h2⟩:=LieV.got (s:=s) k1
  obtain ⟨hs,h3,h4⟩:=LieL.got (l:=l) k2
  exact ⟨gs++hs,⟨v1,v2,e,LieV.mono (s:=s) inl_app h1,LieL.mono (l:=l) inr_app h3⟩,h2.app h4⟩
end
theorem LieT.got {s:Sh} {x:Den s} {y:Value} (k:LieT R s x y):∃gs,LieT (inF gs) s x y∧Got R gs:=by
 cases s with
 | flat l=>obtain ⟨cs,e,k⟩:=k;obtain ⟨gs,h1,h2⟩:=LieL.got (l:=l) k;exact ⟨gs,⟨cs,e,h1⟩,h2⟩
 | row e=>exact LieV.got (s:=.row e) k
 | _=>exact ⟨[],k,by simp [Got]⟩
theorem LieA.got:∀{l:List Sh} {x:DenL l} {vs:List Value},LieA R l x vs→∃gs,LieA (inF gs) l x vs∧Got R gs
 | [],_,_,k=>⟨[],k,by simp [Got]⟩
 | s::l,_,_,⟨y,us,e,k1,k2⟩=>by
  obtain ⟨gs,h1,h2⟩:=LieT.got k1
  obtain ⟨hs,h3,h4⟩:=LieA.got k2
  exact ⟨gs++hs,⟨y,us,e,LieT.mono inl_app h1,LieA.mono inr_app h3⟩,h2.app h4⟩
end
mutual
def zvals:Sh→List Value
 | .int=>[.int .i64 0]
 | .bool=>[.bool false]
 | .str=>[.string ByteArray.empty]
 | .num k=>[numZ k]
 | .flat l=>zvalsL l
 | .row _=>[.slice none 0 0]
termination_by structural s=>s
def zvalsL:List Sh→List Value
 | []=>[]
 | s::l=>zvals s++zvalsL l
termination_by structural l=>l
end
structure DE where
 sy:List (TypeId×Sh)
 sm:List (FuncId×Smry)
 fr:List (FuncId×Frsh)
 idc:List ((TypeId×TypeId)×Unit)
mutual
def rowFree:Sh→Bool
 | .int=>true
 | .bool=>true
 | .str=>true
 | .num _=>true
 | .flat l=>rowFreeL l
 | .row _=>false
termination_by structural s=>s
def rowFreeL:List Sh→Bool
 | []=>true
 | s::l=>rowFree s&&rowFreeL l
termination_by structural l=>l
end
mutual
theorem LieV.free {R R':Option Addr→List Value→Prop}:∀{s:Sh} {x:Den s} {vs:List Value},rowFree s=true→LieV R s x vs→LieV R' s x vs
 | .int,_,_,_,h=>h
 | .bool,_,_,_,h=>h
 | .str,_,_,_,h=>h
 | .num _,_,_,_,h=>h
 | .flat l,_,_,hf,h=>LieL.free (l:=l) hf h
 | .row e,_,_,hf,_=>by cases hf
theorem LieL.free {R R':Option Addr→List Value→Prop}:∀{l:List Sh} {x:DenL l} {vs:List Value},rowFreeL l=true→LieL R l x vs→LieL R' l x vs
 | [],_,_,_,h=>h
 | s::l,_,_,hf,⟨v1,v2,e,h1,h2⟩=>by
  have hf:(rowFree s&&rowFreeL l)=true:=hf
  rw [Bool.and_eq_true] at hf
  exact ⟨v1,v2,e,LieV.free (s:=s) hf.1 h1,LieL.free (l:=l) hf.2 h2⟩
end
theorem LieT.free {R R':Option Addr→List Value→Prop} {s:Sh} {x:Den s} {y:Value} (hf:rowFree s=true) (h:LieT R s x y):LieT R' s x y:=by
 cases s with
 | flat l=>obtain ⟨cs,e,h⟩:=h;exact ⟨cs,e,LieL.free (l:=l) hf h⟩
 | row e=>cases hf
 | _=>exact h
theorem LieA.free {R R':Option Addr→List Value→Prop}:∀{l:List Sh} {x:DenL l} {vs:List Value},rowFreeL l=true→LieA R l x vs→LieA R' l x vs
 | [],_,_,_,h=>h
 | s::l,_,_,hf,⟨y,us,e,h1,h2⟩=>by
  have hf:(rowFree s&&rowFreeL l)=true:=hf
  rw [Bool.and_eq_true] at hf
  exact ⟨y,us,e,h1.free hf.1,LieA.free hf.2 h2⟩
def dplain (x:TD):Bool:=match x with | .v _=>true | .d _ _=>true | .g _=>true | .u _=>true | _=>false
theorem dshareAll_plain {sy:List (TypeId×Sh)} {md:MD} {td:List TD}:∀(l:List TD) (k:List TD→MD→List TD→Prop),l.all dplain=true→dshareAll sy l md td k=k l md td
 | [],k,_=>rfl
 | x::l,k,h=>by
  simp only [List.all_cons,Bool.and_eq_true] at h
  cases x <;> first | exact dshareAll_plain l _ h.2 | cases h.1
theorem shareAll_v {m:M} {t:List T}:∀(vs:List Value) (k:List T→M→List T→Tree),shareAll (vs.map T.v) m t k=k (vs.map T.v) m t
 | [],k=>rfl
 | v::vs,k=>shareAll_v vs fun ys m t=>k (.v v::ys) m t
theorem plain_vals {fs:List Fact}:∀{xs:List TD} {ts:List T},xs.all dplain=true→RTs fs xs ts→∃vs:List Value,ts=vs.map T.v
 | [],ts,_,h=>⟨[],List.eq_nil_of_length_eq_zero (by simpa using h.1.symm)⟩
 | x::xs,ts,hx,h=>by
  obtain ⟨u,us,rfl,h1,h2⟩:=h.tail
  simp only [List.all_cons,Bool.and_eq_true] at hx
  obtain ⟨vs,rfl⟩:=plain_vals hx.2 h2
  have:∃y,u=.v y:=by
   cases x with
   | v w=>exact ⟨w,h1⟩
   | d s L=>obtain ⟨y,e,_⟩:=h1;exact ⟨y,e⟩
   | g cs=>obtain ⟨y,e,_⟩:=h1;exact ⟨y,e⟩
   | u cs=>obtain ⟨y,e,_⟩:=h1;exact ⟨y,e⟩
   | _=>cases hx.1
  obtain ⟨y,rfl⟩:=this
  exact ⟨y::vs,rfl⟩
def dcallF (E:Env) (D:DE) (q:Bool) (g:FuncId) (xs:List TD):Bool:=(howOf E q g).isNone&&xs.all dplain&&(match lk D.sm g with | some S=>rowFreeL S.rs | none=>false)
def dcall (D:DE) (g:FuncId) (xs:List TD) (md:MD) (td:List TD) (k:DK):Prop:=
 match lk D.sm g with
 | some S=>match packA S.ps xs with
  | some x=>S.pre x∧(SzL S.rs (S.F x)→k md td (resTD S.rs (S.F x)))
  | none=>False
 | none=>False
def dmake (D:DE) (g:FuncId) (e:TypeId) (size:Nat) (xs:List TD) (md:MD) (td:List TD) (k:DK):Prop:=
 match lk D.fr g with
 | some S=>match packA S.ps xs with
  | some x=>bif e==S.e&&size==S.size&&size==S.s.size then S.pre x∧k { md with rows:=md.rows++[some ⟨e,size,S.s,S.F x⟩] } td (.r md.rows.length) else False
  | none=>False
 | none=>False
def dcallT (E:Env) (D:DE) (q:Bool) (g:FuncId) (args:List TD) (md:MD) (td:List TD) (k:DK):Prop:=
 match howOf E q g with
 | none=>dshareAll D.sy args md td (fun xs md td=>dcall D g xs md td k)
 | some (.fresh e size)=>dshareAll D.sy args md td (fun xs md td=>dmake D g e size xs md td k)
 | _=>False
structure DE.Ok (D:DE) (E:Env) (P:Program) (B:World→Prop):Prop where
 sm:∀f S,lk D.sm f=some S→callable P f=true∧S.Ok P B f
 fr:∀f S,lk D.fr f=some S→callable P f=true∧S.Ok P B f
 zero:∀e s cs,lk D.sy e=some s→lk E.zero e=some cs→cs=(zvals s).map T.v
 str:∀e s cs places,lk D.sy e=some s→lk E.str e=some (cs,places)→cs=(zvals s).map T.v
 idc:∀a b u,lk D.idc (a,b)=some u→∀v w,(convert a b v).run P w=.ok v w
section
variable {P : Program} {W : World} {Q : Ending → World → Prop} {ds : List Deferred} {B : World → Prop} {D : DE} {E : Env}
abbrev KO (Ob:Nat→Prop) (P:Program) (W:World) (Q:Ending→World→Prop) (ds:List Deferred) (fs:List Fact) (kd:DK) (k:M→List T→T→Tree):Prop:=∀fs' md td xd m t x,(∀φ∈fs,φ∈fs')→RM Ob fs' md m→RTs fs' td t→RelT fs' xd x→kd md td xd→(k m t x).wpD P W none Q ds
theorem dcall_sound (hD:D.Ok E P B) (hB:∀w,Below W.heap.size W w→B w) (hOb:∀g,W.heap.size≤g→Ob g) {g:FuncId} {fs:List Fact} {xs:List TD} {ts:List T} {md:MD} {m:M} {td:List TD} {t:List T} {kd:DK} {k:M→List T→T→Tree}
  (hx:RTs fs xs ts) (hm:RM Ob fs md m) (ht:RTs fs td t) (h:dcall D g xs md td kd) (K:KO Ob P W Q ds fs kd k):(Tree.call g (ts++[]) m (fun v fs=>k (m.learn fs) t (.v v))).wpD P W none Q ds:=by
 unfold dcall at h
 cases hS:lk D.sm g with
 | none=>rw [hS] at h;exact h.elim
 | some S=>
  rw [hS] at h
  simp only at h
  cases hp:packA S.ps xs with
  | none=>rw [hp] at h;exact h.elim
  | some x=>
   rw [hp] at h
   obtain ⟨hpre,h⟩:=h
   obtain ⟨hcl,hok⟩:=hD.sm g S hS
   obtain ⟨vs,rfl,hl⟩:=packA_rel hp hx
   refine ⟨hcl,fun β ρ w us hM hr=>?_⟩
   rw [List.append_nil] at hr
   rw [rels_v hr]
   have hl2:LieA (AtO w fun g=>∃ψ∈m.facts,ψ.g=some g) S.ps x vs:=LieA.mono (fun a xs h=>by
    rw [← hm.fe] at h
    refine ⟨at_inF hM a xs h,fun g hg=>?_⟩
    rcases h with rfl | ⟨φ,h1,h2,_⟩
    ·cases hg
    ·exact ⟨φ,h1,h2.trans hg⟩) hl
   refine (hok _ w x vs (hB w hM.below) hpre hl2).mono ?_
   rintro e w' ⟨us,rfl,hb,hu⟩
   obtain ⟨gs,h1,h2⟩:=LieA.got hu
   refine ⟨tup us,gs,rfl,hb,?_,?_⟩
   ·intro φ hφ g hg
    obtain ⟨a,ys,rfl,h3,h4⟩:=h2 φ hφ
    refine ⟨?_,h3 g hg⟩
    rcases h4 g hg with h5 | h5
    ·exact .inr (.inl h5)
    ·exact .inr (.inr h5)
   ·have hgo:∀φ∈gs,∀g,φ.g=some g→Ob g:=fun φ hφ g hg=>by
     obtain ⟨a,ys,rfl,h3,h4⟩:=h2 φ hφ
     rcases h4 g hg with h5 | ⟨ψ,h5,h6⟩
     ·exact hOb g (Nat.le_trans hM.below.size h5)
     ·exact hm.ob ψ (by rw [← hm.fe];exact h5) g h6
    exact K (gs++fs) md td _ _ t _ (fun φ hφ=>List.mem_append_right _ hφ) (hm.mono gs hgo) (ht.mono fun φ hφ=>List.mem_append_right _ hφ) (relT_v (RelV.mono (fun φ hφ=>List.mem_append_left _ hφ) (resTD_rel h1))) (h hu.sz)
theorem dmake_sound (hD:D.Ok E P B) (hB:∀w,Below W.heap.size W w→B w) (hOb:∀g,W.heap.size≤g→Ob g) {g:FuncId} {e:TypeId} {size:Nat} {fs:List Fact} {xs:List TD} {ts:List T} {md:MD} {m:M} {td:List TD} {t:List T} {kd:DK} {k:M→List T→T→Tree}
  (hx:RTs fs xs ts) (hm:RM Ob fs md m) (ht:RTs fs td t) (h:dmake D g e size xs md td kd) (K:KO Ob P W Q ds fs kd k):(Tree.make g (ts++[]) e size m (fun n ys=>k { m with rows:=m.rows++[some ⟨e,size,n,ys⟩] } t (.r m.rows.length))).wpD P W none Q ds:=by
 unfold dmake at h
 cases hS:lk D.fr g with
 | none=>rw [hS] at h;exact h.elim
 | some S=>
  rw [hS] at h
  simp only at h
  cases hp:packA S.ps xs with
  | none=>rw [hp] at h;exact h.elim
  | some x=>
   rw [hp] at h
   simp only at h
   cases hq:(e==S.e&&size==S.size&&size==S.s.size) with
   | false=>rw [hq] at h;exact h.elim
   | true=>
    rw [hq] at h
    simp only [Bool.and_eq_true,beq_iff_eq] at hq
    obtain ⟨⟨rfl,rfl⟩,hz⟩:=hq
    obtain ⟨hpre,h⟩:=h
    obtain ⟨hcl,hok⟩:=hD.fr g S hS
    obtain ⟨vs,rfl,hl⟩:=packA_rel hp hx
    refine ⟨hcl,fun β ρ w us hM hr=>?_⟩
    rw [List.append_nil] at hr
    rw [rels_v hr]
    refine (hok (inF fs) w x vs (hB w hM.below) hpre (fun a xs h=>at_inF hM a xs (by rw [hm.fe];exact h)) hl).mono ?_
    rintro e' w' ⟨v,ys,rfl,hb,ho,hn⟩
    refine ⟨v,_,ys,rfl,hb,ho,?_⟩
    refine K fs _ td (.r md.rows.length) _ t _ (fun _ h=>h) ?_ ht (by rw [hm.rl];exact rfl) h
    refine ⟨hm.fe,hm.ob,hm.ol,hm.own,by simp [hm.rl],fun i r hi=>?_⟩
    rcases Nat.lt_or_ge i md.rows.length with hi2 | hi2
    ·rw [List.getElem?_append_left hi2] at hi
     simp only
     rw [List.getElem?_append_left (by rw [← hm.rl];exact hi2)]
     exact hm.row i r hi
    ·rw [List.getElem?_append_right hi2] at hi
     simp only
     rw [List.getElem?_append_right (by rw [← hm.rl];exact hi2),← hm.rl]
     cases hj:i - md.rows.length with
     | succ j=>rw [hj] at hi;simp at hi
     | zero=>
      rw [hj] at hi
      simp at hi
      subst hi
      exact ⟨ys,rfl,hz,hn⟩
theorem dcallT_sound (hD:D.Ok E P B) (hB:∀w,Below W.heap.size W w→B w) (hOb:∀g,W.heap.size≤g→Ob g) {E':Env} {q:Bool} {g:FuncId} {fs:List Fact} {xs:List TD} {ts:List T} {md:MD} {m:M} {td:List TD} {t:List T} {kd:DK} {k:M→List T→T→Tree}
  (hx:RTs fs xs ts) (hm:RM Ob fs md m) (ht:RTs fs td t) (h:dcallT E' D q g xs md td kd) (K:KO Ob P W Q ds fs kd k):(callT E' q g ts [] m t k).wpD P W none Q ds:=by
 unfold dcallT at h
 unfold callT
 cases hh:howOf E' q g with
 | none=>
  rw [hh] at h
  exact dshareAll_sound (fun g h=>h.elim (hOb g) (fun h=>by cases h)) xs ts hx hm ht h fun fs' cs' md' td' ts' m' t' hs hc' hm' ht' h'=>dcall_sound hD hB hOb hc' hm' ht' h' fun fs2 md2 td2 xd m2 t2 x2 hs2=>K fs2 md2 td2 xd m2 t2 x2 fun φ hφ=>hs2 _ (hs _ hφ)
 | some w=>
  rw [hh] at h
  cases w with
  | fresh e size=>exact dshareAll_sound (fun g h=>h.elim (hOb g) (fun h=>by cases h)) xs ts hx hm ht h fun fs' cs' md' td' ts' m' t' hs hc' hm' ht' h'=>dmake_sound hD hB hOb hc' hm' ht' h' fun fs2 md2 td2 xd m2 t2 x2 hs2=>K fs2 md2 td2 xd m2 t2 x2 fun φ hφ=>hs2 _ (hs _ hφ)
  | lend=>exact h.elim
  | own=>exact h.elim
theorem dcallT_soundF (hD:D.Ok E P B) (hB:∀w,Below W.heap.size W w→B w) {E':Env} {q:Bool} {g:FuncId} {fs:List Fact} {xs:List TD} {ts:List T} {md:MD} {m:M} {td:List TD} {t:List T} {kd:DK} {k:M→List T→T→Tree} (hf:dcallF E' D q g xs=true)
  (hx:RTs fs xs ts) (hm:RM Ob fs md m) (h:dcallT E' D q g xs md td kd) (K:∀xd x,RelT fs xd x→kd md td xd→(k m t x).wpD P W none Q ds):(callT E' q g ts [] m t k).wpD P W none Q ds:=by
 unfold dcallF at hf
 rw [Bool.and_eq_true,Bool.and_eq_true] at hf
 obtain ⟨⟨hq,hp⟩,hr⟩:=hf
 unfold dcallT at h
 unfold callT
 rw [Option.isNone_iff_eq_none] at hq
 rw [hq] at h ⊢
 simp only at h ⊢
 obtain ⟨vs0,rfl⟩:=plain_vals hp hx
 rw [dshareAll_plain _ _ hp] at h
 rw [shareAll_v]
 unfold dcall at h
 cases hS:lk D.sm g with
 | none=>rw [hS] at h;exact h.elim
 | some S=>
  rw [hS] at h hr
  simp only at h hr
  cases hpk:packA S.ps xs with
  | none=>rw [hpk] at h;exact h.elim
  | some x=>
   rw [hpk] at h
   obtain ⟨hpre,h⟩:=h
   obtain ⟨hcl,hok⟩:=hD.sm g S hS
   obtain ⟨vs,e0,hl⟩:=packA_rel hpk hx
   refine ⟨hcl,fun β ρ w us hM hr'=>?_⟩
   rw [List.append_nil] at hr'
   rw [e0] at hr'
   rw [rels_v hr']
   have hl2:LieA (AtO w fun g=>∃ψ∈m.facts,ψ.g=some g) S.ps x vs:=LieA.mono (fun a xs h=>by
    rw [← hm.fe] at h
    refine ⟨at_inF hM a xs h,fun g hg=>?_⟩
    rcases h with rfl | ⟨φ,h1,h2,_⟩
    ·cases hg
    ·exact ⟨φ,h1,h2.trans hg⟩) hl
   refine (hok _ w x vs (hB w hM.below) hpre hl2).mono ?_
   rintro e w' ⟨us,rfl,hb,hu⟩
   refine ⟨tup us,[],rfl,hb,(fun φ hφ=>by cases hφ),?_⟩
   exact K _ _ (relT_v (resTD_rel (hu.free hr))) (h hu.sz)
end
end Go.Proofs.YtdbjakibneeeiaaGreatDoor.Sx
namespace Go.Proofs.YtdbjakibneeeiaaGreatDoor.Sx
open Go.RowKit
def dzero (s:Sh):List TD:=(zvals s).map .v
mutual
theorem zvals_lie {R:Option Addr→List Value→Prop} (h0:R none []):∀{s:Sh},LieV R s (Sh.z s) (zvals s)
 | .int=>rfl
 | .bool=>rfl
 | .str=>rfl
 | .num k=>⟨rfl,numZ_one k⟩
 | .flat l=>zvalsL_lie h0 (l:=l)
 | .row e=>⟨none,0,0,[],rfl,⟨Nat.le_refl _,Nat.zero_le _,fun _=>⟨rfl,rfl⟩⟩,rfl,rfl,h0⟩
theorem zvalsL_lie {R:Option Addr→List Value→Prop} (h0:R none []):∀{l:List Sh},LieL R l (Sh.zL l) (zvalsL l)
 | []=>rfl
 | s::l=>⟨zvals s,zvalsL l,rfl,zvals_lie h0,zvalsL_lie h0⟩
end
def dprim (P:Program) (s:Sem Next) (k:Value→Prop):Prop:=∃v,(∀w,s.run P w=.ok (.value v) w)∧k v
def dbr (c:Bool) (p q:Prop):Prop:=match c with | true=>p | false=>q
def dbinT (tw:Bool) (op:BinOp) (a b:Int) (k:TD→Prop):Prop:=
 match op with
 | .add=>match tw with | true=>k (.v (.int .i64 (IntKind.i64.wrap (a+b)))) | false=>(-9223372036854775808≤a+b∧a+b≤9223372036854775807)∧(k (.v (.int .i64 (a+b))))
 | .sub=>match tw with | true=>k (.v (.int .i64 (IntKind.i64.wrap (a - b)))) | false=>(-9223372036854775808≤a - b∧a - b≤9223372036854775807)∧(k (.v (.int .i64 (a - b))))
 | .mul=>match tw with | true=>k (.v (.int .i64 (IntKind.i64.wrap (a*b)))) | false=>(-9223372036854775808≤a*b∧a*b≤9223372036854775807)∧(k (.v (.int .i64 (a*b))))
 | .eql=>k (.v (.bool (a==b)))
 | .neq=>k (.v (.bool (a != b)))
 | .lss=>k (.v (.bool (decide (a<b))))
 | .leq=>k (.v (.bool (decide (a≤b))))
 | .gtr=>k (.v (.bool (decide (a>b))))
 | .geq=>k (.v (.bool (decide (a≥b))))
 | _=>False
def dvalsOf:List TD→Option (List Value)
 | []=>some []
 | .v x::l=>(dvalsOf l).map (x :: ·)
 | _::_=>none
def dnv (x:TD):TD:=match x with
 | .g cs=>match dvalsOf cs with
  | some vs=>.v (.agg (List.toArray vs))
  | none=>.g cs
 | x=>x
def dfill (places:List (Nat×Nat)):List TD→List (Nat×TD)→Option (List TD)
 | cs,[]=>some cs
 | cs,(i,x)::l=>match nth places i with
  | some (off,size)=>match dcells x with
   | some xs=>bif xs.length==size&&Nat.ble (off+size) cs.length then dfill places (spl cs off xs) l else none
   | none=>none
  | none=>none
def MD.alloc (m:MD) (cs:List TD) (ty:TypeId):MD:={ m with own:=m.own++[some (cs,ty)] }
def MD.setOwn (m:MD) (b:Nat) (cs:List TD) (ty:TypeId):MD:={ m with own:=m.own.set b (some (cs,ty)) }
def disR (x:TD):Bool:=match x with | .r _=>true | _=>false
def dstore (E:Env) (D:DE) (ty:TypeId) (a x:TD) (md:MD) (td:List TD) (k:DK):Prop:=
 match a with
 | .p b off=>match x with
  | .r i=>match (md.own[b]?).join,lk E.agg ty with
   | some (cs,e),some none=>bif (md.rows[i]?).join.isSome&&Nat.blt off cs.length&&E.keep then k (md.setOwn b (cs.set off (.r i)) e) td (.v undef) else False
   | _,_=>False
  | .any=>False
  | x=>dshareOne D.sy x md td (fun x md td=>match (md.own[b]?).join with
   | some (cs,e)=>match dcells x,lk E.agg ty with
    | some xs,some n=>bif xs.length==n.getD 1&&Nat.ble (off+xs.length) cs.length&&dones xs then k (md.setOwn b (spl cs off xs) e) td (.v undef) else False
    | _,_=>False
   | none=>False)
 | .q i sz j off=>match (md.rows[i]?).join,dcells x,lk E.agg ty with
  | some r,some xs,some n=>match packD r.s (spl (cellsD r.s (r.l.getD j (Sh.z r.s))) off xs) with
   | some (y,[])=>bif xs.length==n.getD 1&&dones xs&&dvals xs&&sz==r.size&&Nat.ble (off+xs.length) r.s.size then j<r.l.length∧k { md with rows:=md.rows.set i (some ⟨r.e,r.size,r.s,r.l.set j y⟩) } td (.v undef) else False
   | _=>False
  | _,_,_=>False
 | _=>False
def dindexAddr (E:Env) (ty:TypeId) (x i:TD) (md:MD) (td:List TD) (k:DK):Prop:=
 match lk E.row ty with
 | some (_,size,_)=>match x,i with
  | .d s L,.v (.int .i64 j)=>bif size==s.size then (0≤j∧j<L.length)∧k md td (.e s L j.toNat 0) else False
  | .r q,.v (.int .i64 j)=>match (md.rows[q]?).join with
   | some r=>bif r.size==size then (0≤j∧j<r.l.length)∧k md td (.q q size j.toNat 0) else False
   | none=>False
  | _,_=>False
 | none=>match x,i with
  | .p b o,.v (.int .i64 j)=>match lk E.arr ty with
   | some (n,size)=>(0≤j∧j<n)∧k md td (.p b (o+j.toNat*size))
   | none=>False
  | _,_=>False
def dlen (E:Env) (ty:TypeId) (x:TD) (md:MD):Option Value:=
 match x with
 | .v (.slice _ n _)=>(lk E.row ty).map fun _=>.int .i64 n
 | .v (.string s)=>(lk E.strs ty).map fun _=>.int .i64 s.size
 | .s _ n=>(lk E.row ty).map fun _=>.int .i64 n
 | .r i=>match (md.rows[i]?).join with
  | some r=>(lk E.row ty).map fun _=>.int .i64 r.l.length
  | none=>none
 | .d _ L=>(lk E.row ty).map fun _=>.int .i64 (List.length L)
 | _=>none
def dappR (D:DE) (e:TypeId) (size bytes:Nat) (i:Nat) (r:RowD) (y:TD) (md:MD) (td:List TD) (k:DK):Prop:=
 match (match y with
  | .s b n=>match (md.own[b]?).join with
   | some (cs,_)=>bif dvals cs then packN r.s n cs else none
   | none=>none
  | .d s L=>Sh.castB s r.s L
  | .v (.slice none 0 0)=>some []
  | _=>none) with
 | some L=>(r.l.length+L.length≤maxLen∧(r.l.length+L.length)*bytes≤140737488355328)∧k (MD.mapO { md with rows:=md.rows.set i (some ⟨e,size,r.s,r.l++L⟩) } (dsubR i .any)) (td.map (dsubR i .any)) (.r i)
 | none=>False
def dappT (D:DE) (e:TypeId) (size bytes:Nat) (x y:TD) (md:MD) (td:List TD) (k:DK):Prop:=
 match x with
 | .r i=>match (md.rows[i]?).join with
  | some r=>bif r.e==e&&r.size==size then dappR D e size bytes i r y md td k else False
  | none=>False
 | .v (.slice none 0 0)=>match lk D.sy e with
  | some s=>bif s.size==size then dappR D e size bytes md.rows.length ⟨e,size,s,[]⟩ y { md with rows:=md.rows++[some ⟨e,size,s,[]⟩] } td k else False
  | none=>False
 | _=>False
def dfield (P:Program) (ty:TypeId) (i:Nat) (cs:List TD):Option TD:=match P.underlying ty with
 | some (.struct fs)=>match fs[i]? with
  | some f=>match P.underlying f.type,P.info? f.type with
   | some (.struct _),some inf=>bif (dsub cs f.offset inf.size).length==inf.size then some (.g (dsub cs f.offset inf.size)) else none
   | some (.array _ _),some inf=>bif (dsub cs f.offset inf.size).length==inf.size then some (.g (dsub cs f.offset inf.size)) else none
   | some _,some _=>cs[f.offset]?
   | _,_=>none
  | none=>none
 | _=>none
def dfunc (x:TD):Option FuncId:=match x with
 | .v (.func (.func g) first caps)=>bif first.size==0&&caps.size==0 then some g else none
 | _=>none
def dstep0 (P:Program) (E:Env) (D:DE) (o:Oper) (st:Bool) (md0 md:MD) (td:List TD) (k:DK):Prop:=
 match o.op with
 | .move x=>k md td (dev td x)
 | .assign x=>k md td (dev td x)
 | .pick c a b=>match dev td c with
  | .v (.bool c)=>dbr c (k md td (dev td a)) (k md td (dev td b))
  | _=>False
 | .alloc e=>match lk E.zero e,lk D.sy e with
  | some cs,some s=>k (md.alloc (dzero s) e) td (.p md.own.length 0)
  | _,_=>False
 | .box e x=>match dcells (dev td x) with
  | some xs=>bif dones xs then k (md.alloc xs e) td (.p md.own.length 0) else False
  | none=>False
 | .load ty a=>dload E st ty (dev td a) md0 md td k
 | .store ty a x=>dstore E D ty (dev td a) (dev td x) md td k
 | .fieldAddr s x f=>match lk E.off (s,f) with
  | some d=>match dev td x with
   | .p b o=>k md td (.p b (o+d))
   | .q i sz j o=>k md td (.q i sz j (o+d))
   | .e s L j o=>k md td (.e s L j (o+d))
   | _=>False
  | none=>False
 | .indexAddr ty x i=>dindexAddr E ty (dev td x) (dev td i) md td k
 | .index ty x i=>match dnv (dev td x),dev td i with
  | .v u,.v b=>dprim P (do pure (.value (← Instr.index ty u b))) (fun v=>k md td (.v v))
  | _,_=>False
 | .binOp op ty x y z=>match dnv (dev td x),dnv (dev td y) with
  | .v (.int .i64 a),.v (.int .i64 b)=>bif binOk op then dbinT E.turns op a b (fun v=>k md td v) else dprim P (do eqGuard op ty x y (.int .i64 a) (.int .i64 b);pure (.value (← binOp op ty (.int .i64 a) (.int .i64 b)))) (fun v=>k md td (.v v))
  | .v a,.v b=>dprim P (do eqGuard op ty x y a b;pure (.value (← binOp op ty a b))) (fun v=>k md td (.v v))
  | _,_=>False
 | .unOp .not _ x=>match dev td x with
  | .v (.bool b)=>k md td (.v (.bool !b))
  | _=>False
 | .unOp .neg _ x=>match dev td x with
  | .v (.int .i64 a)=>(-9223372036854775808≤-a∧-a≤9223372036854775807)∧(k md td (.v (.int .i64 (-a))))
  | _=>False
 | .convert src dst x=>match dev td x with
  | .v u=>dprim P (do pure (.value (← convert src dst u))) (fun v=>k md td (.v v))
  | .any=>False
  | y=>match lk D.idc (src,dst),dvalQ y with
   | some _,true=>k md td y
   | _,_=>False
 | .extract x i=>match dev td x with
  | .u vs=>match vs[i]? with
   | some v=>k md td v
   | none=>False
  | .v (.tuple vs)=>match vs.toList[i]? with
   | some v=>k md td (.v v)
   | none=>False
  | _=>False
 | .build ty parts=>match lk E.str ty,lk D.sy ty with
  | some (_,places),some s=>match dfill places (dzero s) (parts.toList.map fun q=>(q.1,dev td q.2)) with
   | some cs=>bif dvals cs then k md td (.g cs) else False
   | none=>False
  | _,_=>False
 | .buildSlice ty n parts=>match lk E.row ty with
  | some (e,size,_)=>match lk D.sy e with
   | some s=>bif n==0 then (bif E.quiet||parts.size != 0 || !(s.size==size) then False else k { md with rows:=md.rows++[some ⟨e,size,s,[]⟩] } td (.r md.rows.length)) else match lk E.zero e,dfill (rowPlaces n size 0) (reps n (dzero s)) (parts.toList.map fun q=>(q.1,dev td q.2)) with
    | some _,some cs=>bif dones cs&&s.size==size&&Nat.ble (n*size) 1000 then k (md.alloc cs e) td (.s md.own.length n) else False
    | _,_=>False
   | none=>False
  | none=>False
 | .makeSlice ty l c=>match lk E.row ty,dev td l,dev td c with
  | some (e,size,bytes),.v (.int .i64 j),.v (.int .i64 c)=>match lk E.zero e,lk D.sy e with
   | some _,some s=>bif s.size==size&&(!E.quiet||E.made) then (0≤j∧j=c∧j≤140737488355328∧bytes*j.toNat≤140737488355328)∧k { md with rows:=md.rows++[some ⟨e,size,s,List.replicate j.toNat (Sh.z s)⟩] } td (.r md.rows.length) else False
   | _,_=>False
  | _,_,_=>False
 | .slice ty x lo hi none=>match lk E.row ty,dev td x with
  | some (_,size,_),.d s L=>match lo,hi with
   | none,some h=>match dev td h with
    | .v (.int .i64 j)=>(bif size==s.size then True else False)∧(0≤j∧j≤L.length)∧k md td (.d s (L.take j.toNat))
    | _=>False
   | some l,none=>match dev td l with
    | .v (.int .i64 j)=>(bif size==s.size then True else False)∧(0≤j∧j≤L.length)∧k md td (.d s (L.drop j.toNat))
    | _=>False
   | _,_=>False
  | _,.v u=>match lo,hi with
   | none,some h=>match dev td h with
    | .v b=>dprim P (do pure (.value (← Instr.sliceAt ty u none (some b) none))) (fun v=>k md td (.v v))
    | _=>False
   | some l,none=>match dev td l with
    | .v b=>dprim P (do pure (.value (← Instr.sliceAt ty u (some b) none none))) (fun v=>k md td (.v v))
    | _=>False
   | _,_=>False
  | _,_=>False
 | .field ty x i=>match dev td x with
  | .g cs=>match dfield P ty i cs with
   | some y=>k md td y
   | none=>False
  | .v u=>dprim P (do pure (.value (← Instr.field ty u i))) (fun v=>k md td (.v v))
  | _=>False
 | .call c=>match c.callee with
  | .value (.func g)=>dcallT E D false g (c.args.toList.map (dev td)) md td k
  | .value f=>match dfunc (dev td f) with
   | some g=>dcallT E D true g (c.args.toList.map (dev td)) md td k
   | none=>False
  | .builtin .len=>match c.args.toList,c.argTypes.toList with
   | [x],[ty]=>match dlen E ty (dev td x) md with
    | some v=>k md td (.v v)
    | none=>False
   | _,_=>False
  | .builtin .append=>match c.args.toList,c.argTypes.toList with
   | [x,y],[ty,ty2]=>match lk E.row ty with
    | some (e,size,bytes)=>bif ty==ty2 && !E.quiet then dappT D e size bytes (dev td x) (dev td y) md td k else False
    | none=>False
   | _,_=>False
  | .builtin .min=>match dvalsOf (c.args.toList.map (dev td)) with
   | some vs=>dprim P (do pure (.value (← Builtin.min_ c.argTypes o.type (List.toArray vs)))) (fun v=>k md td (.v v))
   | none=>False
  | .builtin .max=>match dvalsOf (c.args.toList.map (dev td)) with
   | some vs=>dprim P (do pure (.value (← Builtin.max_ c.argTypes o.type (List.toArray vs)))) (fun v=>k md td (.v v))
   | none=>False
  | _=>False
 | _=>False
where
 dvalQ:TD→Bool
  | .g _=>true
  | .d _ _=>true
  | _=>false
end Go.Proofs.YtdbjakibneeeiaaGreatDoor.Sx
namespace Go.Proofs.YtdbjakibneeeiaaGreatDoor.Sx
open Go.RowKit
variable {Ob : Nat → Prop}
theorem RM.alloc {fs:List Fact} {md:MD} {m:M} (h:RM Ob fs md m) {cs:List TD} {ts:List T} (ty:TypeId) (hr:RTs fs cs ts):RM Ob fs (md.alloc cs ty) (m.alloc ts ty) where
 fe:=h.fe
 ob:=h.ob
 ol:=by simp [MD.alloc,M.alloc,h.ol]
 own b cs' ty' hb:=by
  simp only [MD.alloc,M.alloc] at hb ⊢
  rcases Nat.lt_or_ge b md.own.length with hl | hl
  ·rw [List.getElem?_append_left hl] at hb
   rw [List.getElem?_append_left (by rw [← h.ol];exact hl)]
   exact h.own b cs' ty' hb
  ·rw [List.getElem?_append_right hl] at hb
   rw [List.getElem?_append_right (by rw [← h.ol];exact hl),← h.ol]
   cases hj:b - md.own.length with
   | succ j=>rw [hj] at hb;simp at hb
   | zero=>
    rw [hj] at hb
    simp at hb
    obtain ⟨rfl,rfl⟩:=hb
    exact ⟨ts,rfl,hr⟩
 rl:=h.rl
 row:=h.row
theorem RM.setOwn {fs:List Fact} {md:MD} {m:M} (h:RM Ob fs md m) (b:Nat) {cs:List TD} {ts:List T} (ty:TypeId) (hr:RTs fs cs ts):RM Ob fs (md.setOwn b cs ty) (m.setOwn b ts ty) where
 fe:=h.fe
 ob:=h.ob
 ol:=by simp [MD.setOwn,M.setOwn,h.ol]
 own b' cs' ty' hb:=by
  simp only [MD.setOwn,M.setOwn,List.getElem?_set] at hb ⊢
  by_cases e:b=b'
  ·rw [if_pos e] at hb ⊢
   split at hb
   ·rename_i hl
    rw [if_pos (by rw [← h.ol];exact hl)]
    simp at hb
    obtain ⟨rfl,rfl⟩:=hb
    exact ⟨ts,rfl,hr⟩
   ·cases hb
  ·rw [if_neg e] at hb ⊢
   exact h.own b' cs' ty' hb
 rl:=h.rl
 row:=h.row
theorem RM.setRow {fs:List Fact} {md:MD} {m:M} (h:RM Ob fs md m) (i:Nat) {r:RowD} {xs:List Value} (hz:r.size=r.s.size) (hl:LieN (LieV (inF fs) r.s) r.l xs):RM Ob fs { md with rows:=md.rows.set i (some r) } { m with rows:=m.rows.set i (some ⟨r.e,r.size,r.l.length,xs⟩) } where
 fe:=h.fe
 ob:=h.ob
 ol:=h.ol
 own:=h.own
 rl:=by simp [h.rl]
 row j r' hj:=by
  simp only [List.getElem?_set] at hj ⊢
  by_cases e:i=j
  ·rw [if_pos e] at hj ⊢
   split at hj
   ·rename_i hl2
    rw [if_pos (by rw [← h.rl];exact hl2)]
    simp at hj
    subst hj
    exact ⟨xs,rfl,hz,hl⟩
   ·cases hj
  ·rw [if_neg e] at hj ⊢
   exact h.row j r' hj
theorem RM.addRow {fs:List Fact} {md:MD} {m:M} (h:RM Ob fs md m) {r:RowD} {xs:List Value} (hz:r.size=r.s.size) (hl:LieN (LieV (inF fs) r.s) r.l xs):RM Ob fs { md with rows:=md.rows++[some r] } { m with rows:=m.rows++[some ⟨r.e,r.size,r.l.length,xs⟩] }:=by
 refine ⟨h.fe,h.ob,h.ol,h.own,by simp [h.rl],fun i r' hi=>?_⟩
 rcases Nat.lt_or_ge i md.rows.length with hi2 | hi2
 ·rw [List.getElem?_append_left hi2] at hi
  simp only
  rw [List.getElem?_append_left (by rw [← h.rl];exact hi2)]
  exact h.row i r' hi
 ·rw [List.getElem?_append_right hi2] at hi
  simp only
  rw [List.getElem?_append_right (by rw [← h.rl];exact hi2),← h.rl]
  cases hj:i - md.rows.length with
  | succ j=>rw [hj] at hi;simp at hi
  | zero=>
   rw [hj] at hi
   simp at hi
   subst hi
   exact ⟨xs,rfl,hz,hl⟩
theorem dfill_rel {fs:List Fact} {places:List (Nat×Nat)}:∀{pd:List (Nat×TD)} {pt:List (Nat×T)} {cs:List TD} {ts:List T} {cs':List TD},RTs fs cs ts→(pd.length=pt.length∧∀(i:Nat) p,pd[i]?=some p→∃q,pt[i]?=some q∧q.1=p.1∧RelT fs p.2 q.2)→dfill places cs pd=some cs'→∃ts',fillT places ts pt=some ts'∧RTs fs cs' ts'
 | [],pt,cs,ts,cs',h,hp,hf=>by
  have:pt=[]:=List.eq_nil_of_length_eq_zero (by simpa using hp.1.symm)
  subst this
  cases hf
  exact ⟨ts,rfl,h⟩
 | (i,x)::pd,pt,cs,ts,cs',h,hp,hf=>by
  cases pt with
  | nil=>have:=hp.1;simp at this
  | cons q pt=>
   obtain ⟨q',e1,e2,e3⟩:=hp.2 0 (i,x) rfl
   simp at e1
   subst e1
   obtain ⟨j,y⟩:=q
   have e2:j=i:=e2
   subst e2
   simp only [dfill] at hf
   simp only [fillT]
   cases hn:nth places j with
   | none=>rw [hn] at hf;cases hf
   | some os=>
    obtain ⟨off,size⟩:=os
    rw [hn] at hf
    simp only at hf ⊢
    cases hc:dcells x with
    | none=>rw [hc] at hf;cases hf
    | some xs=>
     rw [hc] at hf
     simp only at hf
     obtain ⟨us,hu,hr⟩:=dcells_rel e3 hc
     rw [hu]
     simp only
     rw [← hr.1,← h.1]
     cases hb:(xs.length==size&&Nat.ble (off+size) cs.length) with
     | false=>rw [hb] at hf;cases hf
     | true=>
      rw [hb] at hf
      exact dfill_rel (h.spl hr off) ⟨by have:=hp.1;simpa using this,fun k p hk=>by
       obtain ⟨q,h1,h2⟩:=hp.2 (k+1) p (by simpa using hk)
       exact ⟨q,by simpa using h1,h2⟩⟩ hf
theorem dparts_rel {fs:List Fact} {td:List TD} {t:List T} (ht:RTs fs td t) (l:List (Nat×Operand)):(l.map fun q=>(q.1,dev td q.2)).length=(l.map fun q=>(q.1,ev t q.2)).length∧∀(i:Nat) p,(l.map fun q=>(q.1,dev td q.2))[i]?=some p→∃q,(l.map fun q=>(q.1,ev t q.2))[i]?=some q∧q.1=p.1∧RelT fs p.2 q.2:=by
 refine ⟨by simp,fun i p hp=>?_⟩
 rw [List.getElem?_map] at hp ⊢
 cases hi:l[i]? with
 | none=>rw [hi] at hp;cases hp
 | some q=>
  rw [hi] at hp
  obtain rfl:(q.1,dev td q.2)=p:=Option.some.inj hp
  exact ⟨_,rfl,rfl,ht.ev q.2⟩
theorem dargs_rel {fs:List Fact} {td:List TD} {t:List T} (ht:RTs fs td t) (l:List Operand):RTs fs (l.map (dev td)) (l.map (ev t)):=by
 induction l with
 | nil=>exact RTs.nil
 | cons x l ih=>exact RTs.cons (ht.ev x) ih
theorem dreps_rel {fs:List Fact} {cs:List TD} {ts:List T} (h:RTs fs cs ts):∀n,RTs fs (reps n cs) (reps n ts)
 | 0=>RTs.nil
 | n+1=>h.app (dreps_rel h n)
theorem dvalsOf_rel {fs:List Fact}:∀{cs:List TD} {ts:List T} {vs:List Value},RTs fs cs ts→dvalsOf cs=some vs→valsOf ts=some vs
 | [],ts,vs,h,k=>by
  have:ts=[]:=List.eq_nil_of_length_eq_zero (by simpa using h.1.symm)
  subst this
  exact k
 | c::cs,ts,vs,h,k=>by
  obtain ⟨t,us,rfl,h1,h2⟩:=h.tail
  cases c with
  | v x=>
   have h1:t=.v x:=h1
   subst h1
   simp only [dvalsOf] at k
   cases hv:dvalsOf cs with
   | none=>rw [hv] at k;cases k
   | some ws=>
    rw [hv] at k
    simp only [valsOf,dvalsOf_rel h2 hv]
    exact k
  | _=>cases k
mutual
theorem lie_one {R:Option Addr→List Value→Prop}:∀{s:Sh} {x:Den s} {vs:List Value},LieV R s x vs→∀u∈vs,u.oneCell'=true
 | .int,_,_,k=>by have k:_=_:=k;rw [k];simp [Value.oneCell']
 | .bool,_,_,k=>by have k:_=_:=k;rw [k];simp [Value.oneCell']
 | .str,_,_,k=>by have k:_=_:=k;rw [k];simp [Value.oneCell']
 | .num _,_,_,k=>by rw [k.1];intro u hu;have hu:=List.mem_singleton.1 hu;rw [hu];exact k.2
 | .flat l,_,_,k=>lieL_one (l:=l) k
 | .row e,_,_,⟨_,_,_,_,e1,_⟩=>by rw [e1];simp [Value.oneCell']
theorem lieL_one {R:Option Addr→List Value→Prop}:∀{l:List Sh} {x:DenL l} {vs:List Value},LieL R l x vs→∀u∈vs,u.oneCell'=true
 | [],_,_,k=>by have k:_=_:=k;rw [k];simp
 | s::l,_,_,⟨v1,v2,e,k1,k2⟩=>by
  rw [e]
  intro u hu
  exact (List.mem_append.1 hu).elim (lie_one (s:=s) k1 u) (lieL_one (l:=l) k2 u)
end
theorem lieN_one {R:Option Addr→List Value→Prop} {s:Sh}:∀{L:List (Den s)} {vs:List Value},LieN (LieV R s) L vs→∀u∈vs,u.oneCell'=true
 | [],_,k=>by have k:_=_:=k;rw [k];simp
 | x::L,_,⟨v1,v2,e,k1,k2⟩=>by
  rw [e]
  intro u hu
  exact (List.mem_append.1 hu).elim (lie_one (s:=s) k1 u) (lieN_one k2 u)
theorem LieN.setAt {α:Type} {Q:α→List Value→Prop} {z:Nat} (hz:∀x vs,Q x vs→vs.length=z):∀{L:List α} {vs:List Value} {j:Nat},LieN Q L vs→j<L.length→∃us pre post,vs=pre++us++post∧pre.length=j*z∧us.length=z∧(∃x,L[j]?=some x∧Q x us)∧∀y ws,Q y ws→LieN Q (L.set j y) (pre++ws++post)
 | [],_,_,_,h=>by simp at h
 | x::L,_,0,⟨v1,v2,e,k1,k2⟩,h=>⟨v1,[],v2,by rw [e];simp,by simp,hz _ _ k1,⟨x,rfl,k1⟩,fun y ws hy=>⟨ws,v2,by simp,hy,k2⟩⟩
 | x::L,_,j+1,⟨v1,v2,e,k1,k2⟩,h=>by
  obtain ⟨us,pre,post,e1,e2,e3,⟨x',hx',hq⟩,e5⟩:=LieN.setAt hz (j:=j) k2 (by simpa using h)
  refine ⟨us,v1++pre,post,by rw [e,e1];simp,by rw [List.length_append,hz _ _ k1,e2,Nat.succ_mul];omega,e3,⟨x',by simpa using hx',hq⟩,fun y ws hy=>⟨v1,pre++ws++post,by simp,k1,e5 y ws hy⟩⟩
theorem spl_mid {pre us post vs:List Value} {off:Nat} (h:off+vs.length≤us.length):spl (pre++us++post) (pre.length+off) vs=pre++spl us off vs++post:=by
 unfold spl
 have h1:(pre++us++post).take (pre.length+off)=pre++us.take off:=by
  rw [List.append_assoc,List.take_append,List.take_of_length_le (by omega),show pre.length+off - pre.length=off by omega,List.take_append_of_le_length (by omega)]
 have h2:(pre++us++post).drop (pre.length+off+vs.length)=us.drop (off+vs.length)++post:=by
  rw [List.append_assoc,List.drop_append,List.drop_eq_nil_of_le (by omega),show pre.length+off+vs.length - pre.length=off+vs.length by omega,List.drop_append_of_le_length h]
  rfl
 rw [h1,h2]
 simp
theorem RelVs.spl {fs:List Fact} {cs ds:List TD} {vs us:List Value} (h:RelVs fs cs vs) (k:RelVs fs ds us) (o:Nat):RelVs fs (spl cs o ds) (spl vs o us):=by
 unfold Sx.spl
 rw [← k.len]
 exact ((h.take o).app k).app (h.drop _)
end Go.Proofs.YtdbjakibneeeiaaGreatDoor.Sx
namespace Go.Proofs.YtdbjakibneeeiaaGreatDoor.Sx
open Go.RowKit
variable {Ob : Nat → Prop}
section
variable {P : Program} {W : World} {Q : Ending → World → Prop} {ds : List Deferred} {B : World → Prop} {D : DE} {E : Env}
theorem dcase {fs:List Fact} {xd:TD} {t:T} (h:RelT fs xd t):(∃u,xd=.v u∧t=.v u)∨(∀u,xd≠.v u):=by
 cases xd with
 | v u=>exact .inl ⟨u,rfl,h⟩
 | _=>exact .inr (fun u h=>by cases h)
theorem dstore_sound (hOb:∀g,W.heap.size≤g→Ob g) (hkeep:E.keep=true) {o:Oper} {ty:TypeId} {a x:Operand} (ho:o.op=.store ty a x) {fs:List Fact} {md:MD} {m0 m:M} {td:List TD} {t:List T} {kd:DK} {k:M→List T→T→Tree}
  (hm:RM Ob fs md m) (ht:RTs fs td t) (h:dstore E D ty (dev td a) (dev td x) md td kd) (K:KO Ob P W Q ds fs kd k):(step0 E o m0 m t k).wpD P W none Q ds:=by
 have ha:=ht.ev a
 have hx:=ht.ev x
 simp only [step0,ho]
 unfold dstore at h
 cases hd:dev td a with
 | p b off=>
  rw [hd] at h ha
  have ha:ev t a=.p b off:=ha
  rw [ha]
  simp only at h ⊢
  cases hxd:dev td x with
  | r i=>
   rw [hxd] at h hx
   have hx:ev t x=.r i:=hx
   rw [hx]
   simp only at h ⊢
   rw [show (E.keep&&isR (T.r i))=true by rw [hkeep];rfl]
   simp only [cond_true]
   cases hb:(md.own[b]?).join with
   | none=>rw [hb] at h;exact h.elim
   | some q=>
    obtain ⟨cs,e⟩:=q
    rw [hb] at h
    obtain ⟨ts,hts,hr⟩:=hm.own b cs e (Option.join_eq_some_iff.1 hb)
    have hc:m.cells b=some (ts,e):=by unfold M.cells;rw [hts];rfl
    rw [hc]
    cases hag:lk E.agg ty with
    | none=>rw [hag] at h;exact h.elim
    | some ag=>
     rw [hag] at h
     cases ag with
     | some n=>exact h.elim
     | none=>
      simp only at h ⊢
      cases hq:((md.rows[i]?).join.isSome&&Nat.blt off cs.length&&E.keep) with
      | false=>rw [hq] at h;exact h.elim
      | true=>
       rw [hq] at h
       have h:kd _ _ _:=h
       simp only [Bool.and_eq_true] at hq
       have hrow:(m.rows[i]?).join.isSome=true:=by
        cases hri:(md.rows[i]?).join with
        | none=>rw [hri] at hq;exact absurd hq.1.1 (by simp)
        | some r=>
         obtain ⟨xs,hxs,_⟩:=hm.row i r (Option.join_eq_some_iff.1 hri)
         rw [hxs];rfl
       rw [hrow,show Nat.blt off ts.length=true by rw [← hr.1];exact hq.1.2]
       simp only [Bool.and_self,cond_true,forceT_eq]
       exact K _ _ _ (.v undef) _ _ _ (fun _ h=>h) (hm.setOwn b e (hr.set off (x:=.r i) rfl)) ht rfl h
  | any=>rw [hxd] at h;exact h.elim
  | _=>
   rw [hxd] at h hx
   have hnr:isR (ev t x)=false:=by
    first
     | (have hx:ev t x=_:=hx;rw [hx];rfl)
     | (obtain ⟨_,e,_⟩:=hx;rw [e];rfl)
     | (obtain ⟨_,_,_,e,_⟩:=hx;rw [e];rfl)
   rw [show (E.keep&&isR (ev t x))=false by rw [hnr,Bool.and_false]]
   simp only [cond_false] at h ⊢
   refine dshareOne_sound (fun g h=>h.elim (hOb g) (fun h=>by cases h)) (sy:=D.sy) hx hm ht h fun fs' xd' md' td' x' m' t' hs hx' hm' ht' h'=>?_
   cases hb:(md'.own[b]?).join with
   | none=>rw [hb] at h';exact h'.elim
   | some q=>
    obtain ⟨cs,e⟩:=q
    rw [hb] at h'
    simp only at h'
    obtain ⟨ts,hts,hr⟩:=hm'.own b cs e (Option.join_eq_some_iff.1 hb)
    have hc:m'.cells b=some (ts,e):=by unfold M.cells;rw [hts];rfl
    rw [hc]
    simp only
    cases hcs:dcells xd' with
    | none=>rw [hcs] at h';exact h'.elim
    | some xs=>
     rw [hcs] at h'
     obtain ⟨us,hu,hur⟩:=dcells_rel hx' hcs
     rw [hu]
     cases hag:lk E.agg ty with
     | none=>rw [hag] at h';exact h'.elim
     | some n=>
      rw [hag] at h'
      simp only at h' ⊢
      cases hq:(xs.length==n.getD 1&&Nat.ble (off+xs.length) cs.length&&dones xs) with
      | false=>rw [hq] at h';exact h'.elim
      | true=>
       rw [hq] at h'
       simp only [Bool.and_eq_true] at hq
       rw [← hur.1,← hr.1,hq.1.1,hq.1.2,dones_rel hur hq.2]
       simp only [Bool.and_self,cond_true,forceT_eq]
       exact K _ _ _ (.v undef) _ _ _ hs (hm'.setOwn b e (hr.spl hur off)) ht' rfl h'
 | q i sz j off=>
  rw [hd] at h ha
  have ha:ev t a=.q i (j*sz+off):=ha
  rw [ha]
  simp only at h ⊢
  cases hb:(md.rows[i]?).join with
  | none=>rw [hb] at h;exact h.elim
  | some r=>
   rw [hb] at h
   obtain ⟨xs0,hxs,hz,hl⟩:=hm.row i r (Option.join_eq_some_iff.1 hb)
   rw [hxs]
   cases hcs:dcells (dev td x) with
   | none=>rw [hcs] at h;exact h.elim
   | some xs=>
    rw [hcs] at h
    obtain ⟨us,hu,hur⟩:=dcells_rel hx hcs
    rw [hu]
    cases hag:lk E.agg ty with
    | none=>rw [hag] at h;exact h.elim
    | some n=>
     rw [hag] at h
     simp only [Option.join_some] at h ⊢
     cases hp:packD r.s (spl (cellsD r.s (r.l.getD j (Sh.z r.s))) off xs) with
     | none=>rw [hp] at h;exact h.elim
     | some yr=>
      obtain ⟨y,rest⟩:=yr
      rw [hp] at h
      cases rest with
      | cons _ _=>exact h.elim
      | nil=>
       simp only at h
       cases hq:(xs.length==n.getD 1&&dones xs&&dvals xs&&sz==r.size&&Nat.ble (off+xs.length) r.s.size) with
       | false=>rw [hq] at h;exact h.elim
       | true=>
        rw [hq] at h
        simp only [Bool.and_eq_true] at hq
        obtain ⟨⟨⟨⟨q1,q2⟩,q3⟩,q4⟩,q5⟩:=hq
        obtain ⟨hj,h⟩:=h
        obtain ⟨vs,e1,e2,e3⟩:=dvals_rel hur q3
        have q4:sz=r.size:=eq_of_beq q4
        have q5:off+xs.length≤r.s.size:=Nat.le_of_ble_eq_true q5
        rw [e1]
        simp only
        rw [← hur.1,q1,dones_rel hur q2]
        simp only [Bool.and_self,cond_true]
        obtain ⟨ws,pre,post,f1,f2,f3,⟨z,hz1,hz2⟩,f5⟩:=hl.setAt (fun x vs=>LieV.len (s:=r.s)) hj
        have hzz:z=r.l.getD j (Sh.z r.s):=by rw [getD_at (z:=Sh.z r.s) hj] at hz1;exact (Option.some.inj hz1).symm
        subst hzz
        have hvl:vs.length=xs.length:=e2.len
        have hoff:j*sz+off=pre.length+off:=by rw [f2,q4,hz]
        have hspl:=(cellsD_rel (s:=r.s) hz2).spl e2 off
        obtain ⟨v1,v2,g1,g2,g3⟩:=packD_rel (s:=r.s) hp hspl
        have g3:v2=[]:=g3
        rw [g3,List.append_nil] at g1
        have hnew:=f5 y _ g2
        refine ⟨by rw [hoff,f1,List.length_append,List.length_append,f3];omega,?_⟩
        refine K fs _ td (.v undef) _ t _ (fun _ h=>h) ?_ ht rfl h
        have:=hm.setRow i (r:=⟨r.e,r.size,r.s,r.l.set j y⟩) (xs:=pre++v1++post) hz hnew
        rw [hoff,f1,spl_mid (by rw [f3,hvl];exact q5),g1]
        rw [List.length_set] at this
        exact this
 | _=>rw [hd] at h;exact h.elim
end
end Go.Proofs.YtdbjakibneeeiaaGreatDoor.Sx
namespace Go.Proofs.YtdbjakibneeeiaaGreatDoor.Sx
open Go.RowKit
variable {Ob : Nat → Prop}
section
variable {P : Program} {W : World} {Q : Ending → World → Prop} {ds : List Deferred} {B : World → Prop} {D : DE} {E : Env}
theorem dbr_wp {c:Bool} {p q:Prop} {x y:Tree} (h:dbr c p q) (h1:p→x.wpD P W none Q ds) (h2:q→y.wpD P W none Q ds):(br c x y).wpD P W none Q ds:=by
 cases c
 ·exact h2 h
 ·exact h1 h
theorem dprim_wp {s:Sem Next} {kd:Value→Prop} {k:Value→Tree} (h:dprim P s kd) (h1:∀v,kd v→(k v).wpD P W none Q ds):(Tree.prim s k).wpD P W none Q ds:=by
 obtain ⟨v,hv,h⟩:=h
 exact ⟨v,hv,h1 v h⟩
theorem dbinT_wp {tw:Bool} {op:BinOp} {a b:Int} {kd:TD→Prop} {k:T→Tree} (h:dbinT tw op a b kd) (h1:∀v,kd (.v v)→(k (.v v)).wpD P W none Q ds):(binT tw op a b k).wpD P W none Q ds:=by
 cases op <;> simp only [dbinT,binT] at h ⊢ <;> first
  | exact h.elim
  | exact h1 _ h
  | (cases tw
     ·exact ⟨h.1,h1 _ h.2⟩
     ·exact h1 _ h)
theorem dindexAddr_sound {o:Oper} {ty:TypeId} {x i:Operand} (ho:o.op=.indexAddr ty x i) {fs:List Fact} {md:MD} {m0 m:M} {td:List TD} {t:List T} {kd:DK} {k:M→List T→T→Tree}
  (hm:RM Ob fs md m) (ht:RTs fs td t) (h:dindexAddr E ty (dev td x) (dev td i) md td kd) (K:∀xd y,RelT fs xd y→kd md td xd→(k m t y).wpD P W none Q ds):(step0 E o m0 m t k).wpD P W none Q ds:=by
 have hx:=ht.ev x
 have hi:=ht.ev i
 simp only [step0,ho]
 unfold dindexAddr at h
 cases hr:lk E.row ty with
 | some q=>
  obtain ⟨e,size,bytes⟩:=q
  rw [hr] at h
  simp only at h
  cases hxd:dev td x with
  | d s L=>
   rw [hxd] at h hx
   cases hid:dev td i with
   | v u=>
    rw [hid] at h hi
    have hi:ev t i=.v u:=hi
    rw [hi]
    cases u with
    | int kk j=>
     cases kk with
     | i64=>
      simp only at h
      cases hq:size==s.size with
      | false=>rw [hq] at h;exact h.elim
      | true=>
       rw [hq] at h
       obtain ⟨⟨h1,h2⟩,h⟩:=h
       obtain ⟨y,e1,a,n,c,xs,e2,e3,e4,e5,e6⟩:=hx
       obtain rfl:y=.slice a n c:=by simpa using e2
       rw [e1]
       have hn:0<n:=by omega
       have e4:n=L.length:=e4
       cases a with
       | none=>have:=(e3.2.2 rfl).1;omega
       | some A=>
        refine ⟨⟨h1,by omega,rfl⟩,K (.e s L j.toNat 0) _ ?_ h⟩
        have hq:=eq_of_beq hq
        have hF:inF fs (some A) xs:=by
         rcases e6 with e6 | e6
         ·rw [show pt (some A) n=some A from if_neg (by omega)] at e6;cases e6
         ·rw [show pt (some A) n=some A from if_neg (by omega)] at e6;exact .inr e6
        refine ⟨A,xs,_,rfl,e5,hF,?_,?_,?_⟩
        ·simp only [Option.getD_some];unfold Addr.add;split <;> rfl
        ·simp only [Option.getD_some];unfold Addr.add;split
         ·rename_i h0;rw [hq] at h0;omega
         ·rw [hq];rfl
        ·intro h0;simp only [Option.getD_some];unfold Addr.add;split
         ·exact h0
         ·rfl
     | _=>exact h.elim
    | _=>exact h.elim
   | _=>rw [hid] at h;exact h.elim
  | r q=>
   rw [hxd] at h hx
   have hx:ev t x=.r q:=hx
   rw [hx]
   cases hid:dev td i with
   | v u=>
    rw [hid] at h hi
    have hi:ev t i=.v u:=hi
    rw [hi]
    cases u with
    | int kk j=>
     cases kk with
     | i64=>
      simp only at h ⊢
      cases hb:(md.rows[q]?).join with
      | none=>rw [hb] at h;exact h.elim
      | some r=>
       rw [hb] at h
       simp only at h
       obtain ⟨xs,hxs,_⟩:=hm.row q r (Option.join_eq_some_iff.1 hb)
       rw [hxs]
       simp only [Option.join_some]
       cases hq:r.size==size with
       | false=>rw [hq] at h;exact h.elim
       | true=>
        rw [hq] at h
        obtain ⟨h1,h⟩:=h
        simp only [cond_true]
        exact ⟨h1,K (.q q size j.toNat 0) _ rfl h⟩
     | _=>exact h.elim
    | _=>exact h.elim
   | _=>rw [hid] at h;exact h.elim
  | _=>rw [hxd] at h;exact h.elim
 | none=>
  rw [hr] at h
  simp only at h
  cases hxd:dev td x with
  | p b off=>
   rw [hxd] at h hx
   have hx:ev t x=.p b off:=hx
   rw [hx]
   cases hid:dev td i with
   | v u=>
    rw [hid] at h hi
    have hi:ev t i=.v u:=hi
    rw [hi]
    cases u with
    | int kk j=>
     cases kk with
     | i64=>
      simp only at h ⊢
      cases ha:lk E.arr ty with
      | none=>rw [ha] at h;exact h.elim
      | some q=>
       obtain ⟨n,size⟩:=q
       rw [ha] at h
       exact ⟨h.1,K (.p b (off+j.toNat*size)) _ rfl h.2⟩
     | _=>exact h.elim
    | _=>exact h.elim
   | _=>rw [hid] at h;exact h.elim
  | _=>rw [hxd] at h;exact h.elim
theorem dlen_rel {fs:List Fact} {md:MD} {m:M} (hm:RM Ob fs md m) {ty:TypeId} {x:TD} {t:T} (hx:RelT fs x t) {v:Value} (h:dlen E ty x md=some v):lenT E ty t m=some v:=by
 cases x with
 | v u=>
  have hx:t=.v u:=hx
  subst hx
  cases u <;> first | exact h | cases h
 | s b n=>have hx:t=.s b n:=hx;subst hx;exact h
 | r i=>
  have hx:t=.r i:=hx
  subst hx
  simp only [dlen] at h
  cases hb:(md.rows[i]?).join with
  | none=>rw [hb] at h;cases h
  | some r=>
   rw [hb] at h
   obtain ⟨xs,hxs,_⟩:=hm.row i r (Option.join_eq_some_iff.1 hb)
   simp only [lenT,hxs,Option.join_some]
   exact h
 | d s L=>
  obtain ⟨y,rfl,a,n,c,xs,e2,e3,e4,_⟩:=hx
  obtain rfl:y=.slice a n c:=by simpa using e2
  have e4:n=L.length:=e4
  rw [e4]
  exact h
 | _=>cases h
theorem dappR_sound {e:TypeId} {size bytes i:Nat} {r:RowD} {xs0:List Value} {y:TD} {yt:T} {fs:List Fact} {md:MD} {m0 m:M} {td:List TD} {t:List T} {kd:DK} {k:M→List T→T→Tree}
  (hsz:size=r.s.size) (hl0:LieN (LieV (inF fs) r.s) r.l xs0) (hy:RelT fs y yt) (hm:RM Ob fs md m) (ht:RTs fs td t) (h:dappR D e size bytes i r y md td kd) (K:KO Ob P W Q ds fs kd k) :
  (appR e size bytes i ⟨e,size,r.l.length,xs0⟩ yt m0 m t k).wpD P W none Q ds:=by
 unfold dappR at h
 have fin:∀(L:List (Den r.s)) (vs:List Value),LieN (LieV (inF fs) r.s) L vs→kd (MD.mapO { md with rows:=md.rows.set i (some ⟨e,size,r.s,r.l++L⟩) } (dsubR i .any)) (td.map (dsubR i .any)) (.r i)→
   (k (M.mapOwn { m with rows:=m.rows.set i (some ⟨e,size,r.l.length+L.length,xs0++vs⟩) } (subR i .any)) (t.map (subR i .any)) (.r i)).wpD P W none Q ds:=fun L vs hv hk=>by
  have h1:=hm.setRow i (r:=⟨e,size,r.s,r.l++L⟩) (xs:=xs0++vs) hsz (hl0.app hv)
  rw [show (⟨e,size,r.s,r.l++L⟩:RowD).l.length=r.l.length+L.length from List.length_append] at h1
  exact K fs _ _ (.r i) _ _ _ (fun _ h=>h) (h1.mapO (dsubR_rel (fun _ h=>h) i (X:=.any) (Y:=.any) trivial) [] rfl (by simp)) (ht.map (dsubR_rel (fun _ h=>h) i (X:=.any) (Y:=.any) trivial)) rfl hk
 cases y with
 | s b n=>
  have hy:yt=.s b n:=hy
  subst hy
  simp only at h
  cases hb:(md.own[b]?).join with
  | none=>rw [hb] at h;exact h.elim
  | some q=>
   obtain ⟨cs,ty⟩:=q
   rw [hb] at h
   simp only at h
   cases hq:dvals cs with
   | false=>rw [hq] at h;exact h.elim
   | true=>
    rw [hq] at h
    simp only [cond_true] at h
    cases hp:packN r.s n cs with
    | none=>rw [hp] at h;exact h.elim
    | some L=>
     rw [hp] at h
     obtain ⟨h1,h⟩:=h
     obtain ⟨ts,hts,hr⟩:=hm.own b cs ty (Option.join_eq_some_iff.1 hb)
     obtain ⟨vs,e1,e2,e3⟩:=dvals_rel hr hq
     obtain ⟨hn,hl⟩:=packN_rel hp e2
     subst hn
     have hvl:=LieN.len (fun x vs=>LieV.len (s:=r.s)) hl
     simp only [appR,M.cells,hts,Option.join_some,e1]
     rw [show (vs.length==L.length*size)=true by rw [hvl,hsz];exact beq_self_eq_true _]
     simp only [cond_true]
     exact ⟨h1,fin L vs hl h⟩
 | d s L0=>
  simp only at h
  cases hc:Sh.castB s r.s L0 with
  | none=>rw [hc] at h;exact h.elim
  | some L=>
   rw [hc] at h
   obtain ⟨h1,h⟩:=h
   obtain ⟨y,rfl,hy⟩:=hy
   obtain ⟨a,n,c,xs,e2,e3,e4,e5,e6⟩:=castB_rel hc hy
   obtain rfl:y=.slice a n c:=by simpa using e2
   have e4:n=L.length:=e4
   subst e4
   have hvl:=LieN.len (fun x vs=>LieV.len (s:=r.s)) e5
   simp only [appR]
   refine ⟨xs,by rw [hvl,hsz],lieN_one e5,fun β ρ w hM ad had j u hu=>?_,⟨h1.1,h1.2,e3.2.2⟩,fin L xs e5 h⟩
   have hjl:=(List.getElem?_eq_some_iff.1 hu).1
   have hn0:L.length≠0:=fun h0=>by rw [hvl,h0,Nat.zero_mul] at hjl;omega
   have hF:inF m.facts (some ad) xs:=by
    rw [hm.fe]
    rcases e6 with e6 | e6
    ·rw [show pt a L.length=a from if_neg hn0,had] at e6;cases e6
    ·rw [show pt a L.length=a from if_neg hn0,had] at e6;exact .inr e6
   have h9:At w (some ad) xs:=at_inF hM _ _ hF
   exact h9.cell hu
 | v u=>
  have hy:yt=.v u:=hy
  subst hy
  match u,h with
  | .slice none 0 0,h=>
   obtain ⟨h1,h⟩:=h
   simp only [appR]
   exact ⟨[],by simp,by simp,fun β ρ w hM ad had j u hu=>by simp at hu,⟨h1.1,h1.2,by simp⟩,fin [] [] rfl h⟩
 | _=>exact h.elim
theorem dappT_sound {e:TypeId} {size bytes:Nat} {x y:TD} {xt yt:T} {fs:List Fact} {md:MD} {m0 m:M} {td:List TD} {t:List T} {kd:DK} {k:M→List T→T→Tree}
  (hx:RelT fs x xt) (hy:RelT fs y yt) (hm:RM Ob fs md m) (ht:RTs fs td t) (h:dappT D e size bytes x y md td kd) (K:KO Ob P W Q ds fs kd k):(appT e size bytes xt yt m0 m t k).wpD P W none Q ds:=by
 unfold dappT at h
 cases x with
 | r i=>
  have hx:xt=.r i:=hx
  subst hx
  simp only at h
  cases hb:(md.rows[i]?).join with
  | none=>rw [hb] at h;exact h.elim
  | some r=>
   rw [hb] at h
   simp only at h
   obtain ⟨xs,hxs,hz,hl⟩:=hm.row i r (Option.join_eq_some_iff.1 hb)
   cases hq:(r.e==e&&r.size==size) with
   | false=>rw [hq] at h;exact h.elim
   | true=>
    rw [hq] at h
    have h:dappR D e size bytes i r y md td kd:=h
    simp only [appT,hxs,Option.join_some,hq,cond_true]
    simp only [Bool.and_eq_true,beq_iff_eq] at hq
    obtain ⟨rfl,rfl⟩:=hq
    exact dappR_sound hz hl hy hm ht h K
 | v u=>
  have hx:xt=.v u:=hx
  subst hx
  match u,h with
  | .slice none 0 0,h=>
   simp only at h
   cases hs:lk D.sy e with
   | none=>rw [hs] at h;exact h.elim
   | some s=>
    rw [hs] at h
    simp only at h
    cases hq:s.size==size with
    | false=>rw [hq] at h;exact h.elim
    | true=>
     rw [hq] at h
     have hq:=eq_of_beq hq
     have h:dappR D e size bytes md.rows.length ⟨e,size,s,[]⟩ y _ td kd:=h
     simp only [appT]
     rw [← hm.rl]
     exact dappR_sound (r:=⟨e,size,s,[]⟩) (xs0:=[]) hq.symm rfl hy (hm.addRow (r:=⟨e,size,s,[]⟩) (xs:=[]) hq.symm rfl) ht h K
 | _=>exact h.elim
end
end Go.Proofs.YtdbjakibneeeiaaGreatDoor.Sx
