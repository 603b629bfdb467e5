/- Deep data: what rows hold, whatever the places where they lie. -/
import Derived.Test.YtdbjakibneeeiaaGreatDoorKG18QueueOpen
import Derived.Test.YtdbjakibneeeiaaGreatDoorKG22HeapAll
set_option linter.all false
set_option maxHeartbeats 4000000
set_option maxRecDepth 100000
namespace Go.Proofs.YtdbjakibneeeiaaGreatDoor.Sx
open Go.RowKit
def Kh:Nat→Value
 | 0=>.int .u8 0
 | 1=>.int .u64 0
 | 2=>.int .u32 0
 | 3=>.int .u16 0
 | 4=>.int .i32 0
 | 5=>.complex .f64 0 0
 | 6=>.float .f64 0
 | 7=>.nilFunc
 | _=>.nilIface
def Gt:∀k,(Kh k).oneCell'=true
 | 0=>rfl
 | 1=>rfl
 | 2=>rfl
 | 3=>rfl
 | 4=>rfl
 | 5=>rfl
 | 6=>rfl
 | 7=>rfl
 | _+8=>rfl
mutual
def Den:Sh→Type
 | .int=>Int
 | .bool=>Bool
 | .str=>ByteArray
 | .num _=>Value
 | .flat l=>af l
 | .row e=>List (Den e)
termination_by structural s=>s
def af:List Sh→Type
 | []=>Unit
 | s::l=>Den s×af l
termination_by structural l=>l
end
mutual
def Sh.lM:Sh→Sh→Bool
 | .int,.int=>true
 | .bool,.bool=>true
 | .str,.str=>true
 | .num a,.num b=>a==b
 | .flat l,.flat k=>Sh.J2 l k
 | .row e,.row f=>Sh.lM e f
 | _,_=>false
termination_by structural s=>s
def Sh.J2:List Sh→List Sh→Bool
 | [],[]=>true
 | s::l,u::k=>Sh.lM s u&&Sh.J2 l k
 | _,_=>false
termination_by structural l=>l
end
mutual
def Sh.yY:∀{s u:Sh},Sh.lM s u=true→s=u
 | .int,.int,_=>rfl
 | .bool,.bool,_=>rfl
 | .str,.str,_=>rfl
 | .num a,.num b,h=>congrArg Sh.num (eq_of_beq (show (a==b)=true from h))
 | .flat l,.flat k,h=>congrArg Sh.flat (Sh.AN h)
 | .row e,.row f,h=>congrArg Sh.row (Sh.yY h)
def Sh.AN:∀{l k:List Sh},Sh.J2 l k=true→l=k
 | [],[],_=>rfl
 | s::l,u::k,h=>by
  have h:(Sh.lM s u&&Sh.J2 l k)=true:=h
  rw [Bool.and_eq_true] at h
  rw [Sh.yY h.1,Sh.AN h.2]
end
def Sh.jA (s u:Sh) (L:List (Den s)):Option (List (Den u)):=match h:Sh.lM s u with
 | true=>some (Sh.yY h▸L)
 | false=>none
mutual
def Sh.z:(s:Sh)→Den s
 | .int=>(0:Int)
 | .bool=>false
 | .str=>ByteArray.empty
 | .num k=>Kh k
 | .flat l=>Sh.zL l
 | .row e=>([]:List (Den e))
termination_by structural s=>s
def Sh.zL:(l:List Sh)→af l
 | []=>()
 | s::l=>(Sh.z s,Sh.zL l)
termination_by structural l=>l
end
inductive TD where
 | any
 | v (x:Value)
 | d (s:Sh) (l:List (Den s))
 | g (cs:List TD)
 | u (cs:List TD)
 | p (b o:Nat)
 | fn (f:FuncId) (caps:List (Nat×Nat))
 | s (b n:Nat)
 | r (i:Nat)
 | q (i sz j o:Nat)
 | e (s:Sh) (l:List (Den s)) (j o:Nat)
mutual
def eR:(s:Sh)→Den s→List TD
 | .int,x=>[.v (.int .i64 x)]
 | .bool,x=>[.v (.bool x)]
 | .str,x=>[.v (.string x)]
 | .num _,x=>[.v x]
 | .flat l,x=>m7 l x
 | .row e,x=>[.d e x]
termination_by structural s=>s
def m7:(l:List Sh)→af l→List TD
 | [],_=>[]
 | s::l,x=>eR s x.1++m7 l x.2
termination_by structural l=>l
end
mutual
def fM:(s:Sh)→List TD→Option (Den s×List TD)
 | .int,.v (.int .i64 x)::r=>some (x,r)
 | .bool,.v (.bool x)::r=>some (x,r)
 | .str,.v (.string x)::r=>some (x,r)
 | .num _,.v x::r=>bif Value.oneCell' x then some (x,r) else none
 | .flat l,cs=>uF l cs
 | .row e,.d s L::r=>(Sh.jA s e L).map fun L=>(L,r)
 | .row e,.v (.slice none 0 0)::r=>some (([]:List (Den e)),r)
 | _,_=>none
termination_by structural s=>s
def uF:(l:List Sh)→List TD→Option (af l×List TD)
 | [],r=>some ((),r)
 | s::l,cs=>match fM s cs with
  | some (x,r)=>match uF l r with
   | some (y,r)=>some ((x,y),r)
   | none=>none
  | none=>none
termination_by structural l=>l
end
example (a b:Int) (L:List (Den .int)):fM (.flat [.int,.row .int,.int]) [.v (.int .i64 a),.d .int L,.v (.int .i64 b)]=some ((a,L,b,()),[]):=rfl
example (x:Den (.flat [.int,.row .int,.int])):fM (.flat [.int,.row .int,.int]) (eR (.flat [.int,.row .int,.int]) x)=some (x,[]):=rfl
def bK {α:Type} (Q:α→List Value→Prop):List α→List Value→Prop
 | [],vs=>vs=[]
 | x::L,vs=>∃v1 v2,vs=v1++v2∧Q x v1∧bK Q L v2
mutual
def aW (R:Option Addr→List Value→Prop):(s:Sh)→Den s→List Value→Prop
 | .int,x,vs=>vs=[.int .i64 x]
 | .bool,x,vs=>vs=[.bool x]
 | .str,x,vs=>vs=[.string x]
 | .num _,x,vs=>vs=[x]∧Value.oneCell' x=true
 | .flat l,x,vs=>dz R l x vs
 | .row e,L,vs=>∃(a:Option Addr) (n c:Nat) (xs:List Value),vs=[.slice a n c]∧Sl a n c∧n=List.length (α:=Den e) L∧bK (aW R e) L xs∧R (pt a n) xs
termination_by structural s=>s
def dz (R:Option Addr→List Value→Prop):(l:List Sh)→af l→List Value→Prop
 | [],_,vs=>vs=[]
 | s::l,x,vs=>∃v1 v2,vs=v1++v2∧aW R s x.1 v1∧dz R l x.2 v2
termination_by structural l=>l
end
section
variable {R R' : Option Addr → List Value → Prop}
def bK.mono {α:Type} {Q Q':α→List Value→Prop} (h:∀x vs,Q x vs→Q' x vs):∀{L:List α} {vs:List Value},bK Q L vs→bK Q' L vs
 | [],_,k=>k
 | x::L,_,⟨v1,v2,e,k1,k2⟩=>⟨v1,v2,e,h _ _ k1,bK.mono h k2⟩
mutual
def aW.mono (h:∀a xs,R a xs→R' a xs):∀{s:Sh} {x:Den s} {vs:List Value},aW R s x vs→aW R' s x vs
 | .int,_,_,k=>k
 | .bool,_,_,k=>k
 | .str,_,_,k=>k
 | .num _,_,_,k=>k
 | .flat l,_,_,k=>dz.mono h (l:=l) k
 | .row e,_,_,⟨a,n,c,xs,e1,e2,e3,k,r⟩=>⟨a,n,c,xs,e1,e2,e3,bK.mono (fun x vs=>aW.mono h (s:=e)) k,h _ _ r⟩
def dz.mono (h:∀a xs,R a xs→R' a xs):∀{l:List Sh} {x:af l} {vs:List Value},dz R l x vs→dz R' l x vs
 | [],_,_,k=>k
 | s::l,_,_,⟨v1,v2,e,k1,k2⟩=>⟨v1,v2,e,aW.mono h (s:=s) k1,dz.mono h (l:=l) k2⟩
end
mutual
def aW.len:∀{s:Sh} {x:Den s} {vs:List Value},aW R s x vs→vs.length=s.size
 | .int,_,_,k=>by have k:_=_:=k;rw [k];rfl
 | .bool,_,_,k=>by have k:_=_:=k;rw [k];rfl
 | .str,_,_,k=>by have k:_=_:=k;rw [k];rfl
 | .num _,_,_,k=>by have k:_=_:=k.1;rw [k];rfl
 | .flat l,_,_,k=>dz.len (l:=l) k
 | .row e,_,_,⟨_,_,_,_,e1,_⟩=>by rw [e1];rfl
def dz.len:∀{l:List Sh} {x:af l} {vs:List Value},dz R l x vs→vs.length=Sh.sizes l
 | [],_,_,k=>by have k:_=_:=k;rw [k];rfl
 | s::l,_,_,⟨v1,v2,e,k1,k2⟩=>by rw [e,List.length_append,aW.len (s:=s) k1,dz.len (l:=l) k2];rfl
end
def bK.len {α:Type} {Q:α→List Value→Prop} {z:Nat} (hz:∀x vs,Q x vs→vs.length=z):∀{L:List α} {vs:List Value},bK Q L vs→vs.length=L.length*z
 | [],_,k=>by have k:_=_:=k;rw [k];simp
 | x::L,_,⟨v1,v2,e,k1,k2⟩=>by rw [e,List.length_append,hz _ _ k1,bK.len hz k2,List.length_cons,Nat.succ_mul];omega
def bK.at {α:Type} {Q:α→List Value→Prop} {z:Nat} (hz:∀x vs,Q x vs→vs.length=z):∀{L:List α} {vs:List Value} {j:Nat} {x:α},bK Q L vs→L[j]?=some x→∃us,Q x us∧∀(i:Nat) (u:Value),us[i]?=some u→vs[j*z+i]?=some u
 | [],_,_,_,_,h=>by simp at h
 | y::L,_,0,x,⟨v1,v2,e,k1,k2⟩,h=>by
  obtain rfl:y=x:=by simpa using h
  refine ⟨v1,k1,fun i u hu=>?_⟩
  rw [e,Nat.zero_mul,Nat.zero_add,List.getElem?_append_left (List.getElem?_eq_some_iff.1 hu).1]
  exact hu
 | y::L,_,j+1,x,⟨v1,v2,e,k1,k2⟩,h=>by
  obtain ⟨us,h1,h2⟩:=bK.at hz k2 (by simpa using h)
  refine ⟨us,h1,fun i u hu=>?_⟩
  have hl:=hz _ _ k1
  rw [e,List.getElem?_append_right (by rw [hl,Nat.succ_mul];omega),show (j+1)*z+i - v1.length=j*z+i by rw [hl,Nat.succ_mul];omega]
  exact h2 i u hu
def bK.app {α:Type} {Q:α→List Value→Prop}:∀{L M:List α} {vs us:List Value},bK Q L vs→bK Q M us→bK Q (L++M) (vs++us)
 | [],_,_,_,h,k=>by have h:_=_:=h;rw [h];exact k
 | x::L,_,_,_,⟨v1,v2,e,k1,k2⟩,k=>⟨v1,v2++_,by rw [e,List.append_assoc],k1,bK.app k2 k⟩
end
end Go.Proofs.YtdbjakibneeeiaaGreatDoor.Sx
namespace Go.Proofs.YtdbjakibneeeiaaGreatDoor.Sx
open Go.RowKit
variable {Ob : Nat → Prop}
def eC (fs:List Fact) (a:Option Addr) (xs:List Value):Prop:=a=none∨∃φ∈fs,φ.g=(ay a xs).g∧∀o,φ.holds o→(ay a xs).holds o
def eC.of {fs:List Fact} {a:Option Addr} {xs:List Value} (h:ay a xs∈fs):eC fs a xs:=.inr ⟨_,h,rfl,fun _ h=>h⟩
mutual
def gD (fs:List Fact):TD→Value→Prop
 | .v x,y=>y=x
 | .d s L,y=>aW (eC fs) (.row s) L [y]
 | .g cs,y=>∃vs:List Value,y=.agg vs.toArray∧bz fs cs vs
 | .u cs,y=>∃vs:List Value,y=.tuple vs.toArray∧bz fs cs vs
 | _,_=>False
termination_by structural x=>x
def bz (fs:List Fact):List TD→List Value→Prop
 | [],vs=>vs=[]
 | c::cs,vs=>∃y ys,vs=y::ys∧gD fs c y∧bz fs cs ys
termination_by structural x=>x
end
def bJ (fs:List Fact):TD→T→Prop
 | .any,_=>True
 | .p b o,t=>t=.p b o
 | .fn f c,t=>t=.fn f c
 | .s b n,t=>t=.s b n
 | .r i,t=>t=.r i
 | .q i sz j o,t=>t=.q i (j*sz+o)
 | .e s L j o,t=>∃(A:Addr) (xs:List Value) (ad:Addr),t=.v (.pointer (some ad))∧bK (aW (eC fs) s) L xs∧eC fs (some A) xs∧ad.block=A.block∧ad.off=A.off+(j*s.size+o)∧(A.spot=none→ad.spot=none)
 | .v x,t=>t=.v x
 | x,t=>∃y,t=.v y∧gD fs x y
def aS (fs:List Fact) (cs:List TD) (ts:List T):Prop:=cs.length=ts.length∧∀(i:Nat) (c:TD),cs[i]?=some c→∃t,ts[i]?=some t∧bJ fs c t
structure kP where
 e:TypeId
 size:Nat
 s:Sh
 l:List (Den s)
structure MD where
 own:List (Option (List TD×TypeId))
 rows:List (Option kP)
structure RM (Ob:Nat→Prop) (fs:List Fact) (md:MD) (m:M):Prop where
 fe:m.facts=fs
 ob:∀φ∈fs,∀g,φ.g=some g→Ob g
 ol:md.own.length=m.own.length
 own:∀(b:Nat) (cs:List TD) (ty:TypeId),md.own[b]?=some (some (cs,ty))→∃ts,m.own[b]?=some (some (ts,ty))∧aS fs cs ts
 rl:md.rows.length=m.rows.length
 row:∀(i:Nat) (r:kP),md.rows[i]?=some (some r)→∃xs,m.rows[i]?=some (some ⟨r.e,r.size,r.l.length,xs⟩)∧r.size=r.s.size∧bK (aW (eC fs) r.s) r.l xs
section
variable {fs fs' : List Fact}
def eC.mono (h:∀φ∈fs,φ∈fs') {a xs}:eC fs a xs→eC fs' a xs:=fun k=>k.imp (fun e=>e) (fun ⟨φ,h1,h2⟩=>⟨φ,h _ h1,h2⟩)
mutual
def gD.mono (h:∀φ∈fs,φ∈fs'):∀{x:TD} {y:Value},gD fs x y→gD fs' x y
 | .v _,_,k=>k
 | .d s L,_,k=>aW.mono (s:=.row s) (fun _ _=>eC.mono h) k
 | .g cs,_,⟨vs,e,k⟩=>⟨vs,e,bz.mono h k⟩
 | .u cs,_,⟨vs,e,k⟩=>⟨vs,e,bz.mono h k⟩
 | .any,_,k=>k.elim
 | .p _ _,_,k=>k.elim
 | .fn _ _,_,k=>k.elim
 | .s _ _,_,k=>k.elim
 | .r _,_,k=>k.elim
 | .q _ _ _ _,_,k=>k.elim
 | .e _ _ _ _,_,k=>k.elim
def bz.mono (h:∀φ∈fs,φ∈fs'):∀{x:List TD} {y:List Value},bz fs x y→bz fs' x y
 | [],_,k=>k
 | c::cs,_,⟨y,ys,e,k1,k2⟩=>⟨y,ys,e,gD.mono h k1,bz.mono h k2⟩
end
def bJ.mono (h:∀φ∈fs,φ∈fs') {x:TD} {t:T} (k:bJ fs x t):bJ fs' x t:=by
 cases x with
 | e s L j o=>
  obtain ⟨A,xs,ad,e1,e2,e3,e4⟩:=k
  exact ⟨A,xs,ad,e1,bK.mono (fun x vs=>aW.mono (s:=s) (fun _ _=>eC.mono h)) e2,eC.mono h e3,e4⟩
 | d s L=>exact k.imp fun y ⟨e,k⟩=>⟨e,gD.mono h k⟩
 | g cs=>exact k.imp fun y ⟨e,k⟩=>⟨e,gD.mono h k⟩
 | u cs=>exact k.imp fun y ⟨e,k⟩=>⟨e,gD.mono h k⟩
 | _=>exact k
def aS.mono (h:∀φ∈fs,φ∈fs') {x:List TD} {t:List T} (k:aS fs x t):aS fs' x t:=⟨k.1,fun i c hc=>(k.2 i c hc).imp fun t ⟨e,r⟩=>⟨e,r.mono h⟩⟩
def RM.mono {md:MD} {m:M} (k:RM Ob fs md m) (gs:List Fact) (ho:∀φ∈gs,∀g,φ.g=some g→Ob g):RM Ob (gs++fs) md (m.eA gs) where
 fe:=by simp [M.eA,k.fe]
 ob φ hφ:=(List.mem_append.1 hφ).elim (ho φ) (k.ob φ)
 ol:=k.ol
 own b cs ty hb:=(k.own b cs ty hb).imp fun ts ⟨e,r⟩=>⟨e,r.mono fun φ hφ=>List.mem_append_right _ hφ⟩
 rl:=k.rl
 row i r hr:=(k.row i r hr).imp fun xs ⟨e,z,l⟩=>⟨e,z,bK.mono (fun x vs=>aW.mono (s:=r.s) (fun _ _=>eC.mono fun φ hφ=>List.mem_append_right _ hφ)) l⟩
def ia {x:TD} {y:Value} (h:gD fs x y):bJ fs x (.v y):=by
 cases x with
 | v x=>exact congrArg T.v h
 | d s L=>exact ⟨y,rfl,h⟩
 | g cs=>exact ⟨y,rfl,h⟩
 | u cs=>exact ⟨y,rfl,h⟩
 | _=>exact h.elim
def bz.rts:∀{cs:List TD} {vs:List Value},bz fs cs vs→aS fs cs (vs.map T.v)
 | [],_,h=>by
  have h:_=_:=h
  rw [h]
  exact ⟨rfl,fun i c hc=>by simp at hc⟩
 | c::cs,_,⟨y,ys,e,h1,h2⟩=>by
  have k:=bz.rts h2
  rw [e]
  refine ⟨by simpa using k.1,fun i d hd=>?_⟩
  cases i with
  | zero=>
   obtain rfl:c=d:=by simpa using hd
   exact ⟨_,rfl,ia h1⟩
  | succ i=>simpa using k.2 i d (by simpa using hd)
def aS.nil:aS fs [] []:=⟨rfl,fun i c hc=>by simp at hc⟩
def aS.cons {c:TD} {t:T} {cs:List TD} {ts:List T} (h:bJ fs c t) (k:aS fs cs ts):aS fs (c::cs) (t::ts):=by
 refine ⟨by simpa using k.1,fun i d hd=>?_⟩
 cases i with
 | zero=>
  obtain rfl:c=d:=by simpa using hd
  exact ⟨_,rfl,h⟩
 | succ i=>simpa using k.2 i d (by simpa using hd)
def aS.tail {c:TD} {cs:List TD} {ts:List T} (k:aS fs (c::cs) ts):∃t us,ts=t::us∧bJ fs c t∧aS fs cs us:=by
 cases ts with
 | nil=>simp [aS] at k
 | cons t us=>
  obtain ⟨t',e,r⟩:=k.2 0 c rfl
  simp at e
  subst e
  exact ⟨t,us,rfl,r,⟨by simpa using k.1,fun i d hd=>by simpa using k.2 (i+1) d (by simpa using hd)⟩⟩
def aS.app {cs ds:List TD} {ts us:List T} (h:aS fs cs ts) (k:aS fs ds us):aS fs (cs++ds) (ts++us):=by
 refine ⟨by simp [h.1,k.1],fun i c hc=>?_⟩
 rcases Nat.lt_or_ge i cs.length with hi | hi
 ·rw [List.getElem?_append_left hi] at hc
  rw [List.getElem?_append_left (by rw [← h.1];exact hi)]
  exact h.2 i c hc
 ·rw [List.getElem?_append_right hi] at hc
  rw [List.getElem?_append_right (by rw [← h.1];exact hi),← h.1]
  exact k.2 _ c hc
def aS.take {cs:List TD} {ts:List T} (h:aS fs cs ts) (n:Nat):aS fs (cs.take n) (ts.take n):=by
 refine ⟨by simp [h.1],fun i c hc=>?_⟩
 rw [List.getElem?_take] at hc ⊢
 by_cases hi:i<n
 ·rw [if_pos hi] at hc ⊢;exact h.2 i c hc
 ·rw [if_neg hi] at hc;cases hc
def aS.drop {cs:List TD} {ts:List T} (h:aS fs cs ts) (n:Nat):aS fs (cs.drop n) (ts.drop n):=by
 refine ⟨by simp [h.1],fun i c hc=>?_⟩
 rw [List.getElem?_drop] at hc ⊢
 exact h.2 _ c hc
def aS.fI {cs ds:List TD} {ts us:List T} (h:aS fs cs ts) (k:aS fs ds us) (o:Nat):aS fs (fI cs o ds) (fI ts o us):=by
 unfold Sx.fI
 rw [k.1]
 exact ((h.take o).app k).app (h.drop _)
def aS.set {cs:List TD} {ts:List T} (h:aS fs cs ts) (i:Nat) {x:TD} {y:T} (hx:bJ fs x y):aS fs (cs.set i x) (ts.set i y):=by
 refine ⟨by simp [h.1],fun j c hc=>?_⟩
 rw [List.getElem?_set] at hc ⊢
 by_cases e:i=j
 ·subst e
  rw [if_pos rfl] at hc ⊢
  by_cases hl:i<cs.length
  ·rw [if_pos hl] at hc
   rw [if_pos (by rw [← h.1];exact hl)]
   obtain rfl:=Option.some.inj hc
   exact ⟨y,rfl,hx⟩
  ·rw [if_neg hl] at hc;cases hc
 ·rw [if_neg e] at hc ⊢
  exact h.2 j c hc
end
def sk (t:List TD) (i:Nat):TD:=t.getD i .any
def pz (t:List TD) (d:Option Tmp) (x:TD):List TD:=match d with | some i=>t.set i x | none=>t
def dev (t:List TD):Operand→TD
 | .tmp i=>sk t i
 | .const x=>.v x
 | .global g=>.v (.pointer (some ⟨g,0,none⟩))
 | .func f=>.v (.func (.func f) #[] #[])
section
variable {fs : List Fact} {td : List TD} {t : List T}
def aS.get (h:aS fs td t) (i:Nat):bJ fs (sk td i) (get t i):=by
 unfold sk Sx.get
 rw [List.getD_eq_getElem?_getD,List.getD_eq_getElem?_getD]
 cases hc:td[i]? with
 | none=>exact trivial
 | some c=>
  obtain ⟨u,hu,r⟩:=h.2 i c hc
  rw [hu]
  exact r
def aS.put (h:aS fs td t) (d:Option Tmp) {x:TD} {y:T} (hx:bJ fs x y):aS fs (pz td d x) (put t d y):=by
 cases d with
 | none=>exact h
 | some i=>exact h.set i hx
def aS.ev (h:aS fs td t) (x:Operand):bJ fs (dev td x) (ev t x):=by
 cases x with
 | tmp i=>exact h.get i
 | const x=>exact rfl
 | global g=>exact rfl
 | func f=>exact rfl
end
def fC:TD→Option (List TD)
 | .v x=>some (x.cells.toList.map .v)
 | .g cs=>some cs
 | .d s L=>some [.d s L]
 | .p b o=>some [.p b o]
 | .fn f c=>some [.fn f c]
 | .s b n=>some [.s b n]
 | _=>none
def dH:List TD→Bool
 | []=>true
 | .v x::l=>x.oneCell'&&dH l
 | .d _ _::l=>dH l
 | .p _ _::l=>dH l
 | .fn _ _::l=>dH l
 | .s _ _::l=>dH l
 | _::_=>false
def dvals:List TD→Bool
 | []=>true
 | .v x::l=>dvals l
 | .d _ _::l=>dvals l
 | _::_=>false
section
variable {fs : List Fact}
def oJ (l:List Value):aS fs (l.map TD.v) (l.map T.v):=by
 induction l with
 | nil=>exact aS.nil
 | cons x l ih=>exact aS.cons rfl ih
def kn {x:TD} {t:T} {cs:List TD} (h:bJ fs x t) (hc:fC x=some cs):∃ts,jf t=some ts∧aS fs cs ts:=by
 cases x with
 | v x=>
  cases hc
  have h:t=.v x:=h
  subst h
  exact ⟨_,rfl,oJ _⟩
 | g cs'=>
  cases hc
  obtain ⟨y,rfl,vs,rfl,h⟩:=h
  exact ⟨_,rfl,by simpa [Value.cells] using h.rts⟩
 | d s L=>
  cases hc
  obtain ⟨y,rfl,h⟩:=h
  obtain ⟨a,n,c,xs,e,_⟩:=id h
  obtain rfl:y=.slice a n c:=by simpa using e
  exact ⟨_,rfl,aS.cons (ia h) aS.nil⟩
 | p b o=>cases hc;have h:t=_:=h;subst h;exact ⟨_,rfl,aS.cons rfl aS.nil⟩
 | fn f c=>cases hc;have h:t=_:=h;subst h;exact ⟨_,rfl,aS.cons rfl aS.nil⟩
 | s b n=>cases hc;have h:t=_:=h;subst h;exact ⟨_,rfl,aS.cons rfl aS.nil⟩
 | _=>cases hc
def dZ:∀{cs:List TD} {ts:List T},aS fs cs ts→dH cs=true→dF ts=true
 | [],ts,h,_=>by
  have:ts=[]:=List.eq_nil_of_length_eq_zero (by simpa using h.1.symm)
  rw [this];rfl
 | c::cs,ts,h,k=>by
  obtain ⟨t,us,rfl,h1,h2⟩:=h.tail
  cases c with
  | v x=>
   have h1:t=.v x:=h1
   subst h1
   simp only [dH,Bool.and_eq_true] at k
   simp only [dF,Bool.and_eq_true]
   exact ⟨k.1,dZ h2 k.2⟩
  | d s L=>
   obtain ⟨y,rfl,a,n,cc,xs,e,_⟩:=h1
   obtain rfl:y=.slice a n cc:=by simpa using e
   simp only [dF,Bool.and_eq_true]
   exact ⟨rfl,dZ h2 k⟩
  | p b o=>have h1:t=_:=h1;subst h1;exact (show dF us=true from dZ h2 (show dH cs=true from k))
  | fn f c=>have h1:t=_:=h1;subst h1;exact (show dF us=true from dZ h2 (show dH cs=true from k))
  | s b n=>have h1:t=_:=h1;subst h1;exact (show dF us=true from dZ h2 (show dH cs=true from k))
  | _=>cases k
def fR:∀{cs:List TD} {ts:List T},aS fs cs ts→dvals cs=true→∃vs,aH ts=some vs∧bz fs cs vs∧ts=vs.map T.v
 | [],ts,h,_=>by
  have:ts=[]:=List.eq_nil_of_length_eq_zero (by simpa using h.1.symm)
  rw [this];exact ⟨[],rfl,rfl,rfl⟩
 | c::cs,ts,h,k=>by
  obtain ⟨t,us,rfl,h1,h2⟩:=h.tail
  cases c with
  | v x=>
   have h1:t=.v x:=h1
   subst h1
   obtain ⟨vs,e1,e2,e3⟩:=fR h2 k
   exact ⟨x::vs,by simp [aH,e1],⟨x,vs,rfl,rfl,e2⟩,by rw [e3];rfl⟩
  | d s L=>
   obtain ⟨y,rfl,h1⟩:=h1
   obtain ⟨vs,e1,e2,e3⟩:=fR h2 k
   exact ⟨y::vs,by simp [aH,e1],⟨y,vs,rfl,h1,e2⟩,by rw [e3];rfl⟩
  | _=>cases k
end
section
variable {fs : List Fact}
def bz.app:∀{cs ds:List TD} {vs us:List Value},bz fs cs vs→bz fs ds us→bz fs (cs++ds) (vs++us)
 | [],_,_,_,h,k=>by have h:_=_:=h;rw [h];exact k
 | c::cs,_,_,_,⟨y,ys,e,h1,h2⟩,k=>⟨y,ys++_,by rw [e];rfl,h1,bz.app h2 k⟩
def bz.len:∀{cs:List TD} {vs:List Value},bz fs cs vs→vs.length=cs.length
 | [],_,h=>by have h:_=_:=h;rw [h];rfl
 | c::cs,_,⟨y,ys,e,h1,h2⟩=>by rw [e,List.length_cons,List.length_cons,bz.len h2]
def bz.take:∀{cs:List TD} {vs:List Value} (n:Nat),bz fs cs vs→bz fs (cs.take n) (vs.take n)
 | [],_,n,h=>by have h:_=_:=h;rw [h];simp;exact rfl
 | c::cs,_,0,h=>by simp;exact rfl
 | c::cs,_,n+1,⟨y,ys,e,h1,h2⟩=>by rw [e];exact ⟨y,ys.take n,rfl,h1,bz.take n h2⟩
def bz.drop:∀{cs:List TD} {vs:List Value} (n:Nat),bz fs cs vs→bz fs (cs.drop n) (vs.drop n)
 | [],_,n,h=>by have h:_=_:=h;rw [h];simp;exact rfl
 | c::cs,_,0,h=>h
 | c::cs,_,n+1,⟨y,ys,e,h1,h2⟩=>by rw [e];exact bz.drop n h2
def Fi {e:Sh} {x:List (Den e)} {vs:List Value} (h:aW (eC fs) (.row e) x vs):∃y,vs=[y]∧gD fs (.d e x) y:=by
 obtain ⟨a,n,c,xs,e1,e2,e3,k,r⟩:=h
 exact ⟨.slice a n c,e1,a,n,c,xs,rfl,e2,e3,k,r⟩
mutual
def gY:∀{s:Sh} {x:Den s} {vs:List Value},aW (eC fs) s x vs→bz fs (eR s x) vs
 | .int,x,vs,h=>⟨_,[],h,rfl,rfl⟩
 | .bool,x,vs,h=>⟨_,[],h,rfl,rfl⟩
 | .str,x,vs,h=>⟨_,[],h,rfl,rfl⟩
 | .num _,x,vs,h=>⟨_,[],h.1,rfl,rfl⟩
 | .flat l,x,vs,h=>lH (l:=l) h
 | .row e,x,vs,h=>by
  obtain ⟨y,e1,k⟩:=Fi h
  exact ⟨y,[],e1,k,rfl⟩
def lH:∀{l:List Sh} {x:af l} {vs:List Value},dz (eC fs) l x vs→bz fs (m7 l x) vs
 | [],x,vs,h=>h
 | s::l,x,vs,⟨v1,v2,e,k1,k2⟩=>by rw [e];exact bz.app (gY (s:=s) k1) (lH (l:=l) k2)
end
def qu {s e:Sh} {L:List (Den s)} {K:List (Den e)} (h:Sh.jA s e L=some K) {y:Value} (k:gD fs (.d s L) y):gD fs (.d e K) y:=by
 unfold Sh.jA at h
 split at h
 ·rename_i hb
  have he:=Sh.yY hb
  subst he
  simp at h
  subst h
  exact k
 ·cases h
mutual
def mq:∀{s:Sh} {cs:List TD} {x:Den s} {r:List TD} {vs:List Value},fM s cs=some (x,r)→bz fs cs vs→∃v1 v2,vs=v1++v2∧aW (eC fs) s x v1∧bz fs r v2
 | .int,cs,x,r,vs,h,k=>by
  match cs,h,k with
  | .v (.int .i64 z)::cs,h,⟨y,ys,e,h1,h2⟩=>
   cases h
   exact ⟨[y],ys,e,congrArg (fun q=>[q]) h1,h2⟩
 | .bool,cs,x,r,vs,h,k=>by
  match cs,h,k with
  | .v (.bool z)::cs,h,⟨y,ys,e,h1,h2⟩=>
   cases h
   exact ⟨[y],ys,e,congrArg (fun q=>[q]) h1,h2⟩
 | .str,cs,x,r,vs,h,k=>by
  match cs,h,k with
  | .v (.string z)::cs,h,⟨y,ys,e,h1,h2⟩=>
   cases h
   exact ⟨[y],ys,e,congrArg (fun q=>[q]) h1,h2⟩
 | .num _,cs,x,r,vs,h,k=>by
  match cs,h,k with
  | .v z::cs,h,⟨y,ys,e,h1,h2⟩=>
   have h:(bif Value.oneCell' z then some (z,cs) else none)=some (x,r):=h
   cases hz:z.oneCell' with
   | false=>rw [hz] at h;cases h
   | true=>
    rw [hz] at h
    cases h
    exact ⟨[y],ys,e,⟨congrArg (fun q=>[q]) h1,hz⟩,h2⟩
 | .flat l,cs,x,r,vs,h,k=>qh (l:=l) h k
 | .row e,cs,x,r,vs,h,k=>by
  match cs,h,k with
  | .d s L::cs,h,⟨y,ys,e1,h1,h2⟩=>
   have h:(Sh.jA s e L).map (fun L=>(L,cs))=some (x,r):=h
   cases hK:Sh.jA s e L with
   | none=>rw [hK] at h;cases h
   | some K=>
    rw [hK] at h
    cases h
    exact ⟨[y],ys,e1,qu hK h1,h2⟩
  | .v (.slice none 0 0)::cs,h,⟨y,ys,e1,h1,h2⟩=>
   cases h
   have h1:y=.slice none 0 0:=h1
   exact ⟨[y],ys,e1,⟨none,0,0,[],by rw [h1],⟨Nat.le_refl _,Nat.zero_le _,fun _=>⟨rfl,rfl⟩⟩,rfl,rfl,.inl rfl⟩,h2⟩
def qh:∀{l:List Sh} {cs:List TD} {x:af l} {r:List TD} {vs:List Value},uF l cs=some (x,r)→bz fs cs vs→∃v1 v2,vs=v1++v2∧dz (eC fs) l x v1∧bz fs r v2
 | [],cs,x,r,vs,h,k=>by
  cases h
  exact ⟨[],vs,rfl,rfl,k⟩
 | s::l,cs,x,r,vs,h,k=>by
  simp only [uF] at h
  split at h
  ·rename_i x1 r1 e1
   split at h
   ·rename_i x2 r2 e2
    cases h
    obtain ⟨v1,v2,e3,k1,k2⟩:=mq (s:=s) e1 k
    obtain ⟨v3,v4,e4,k3,k4⟩:=qh (l:=l) e2 k2
    exact ⟨v1++v3,v4,by rw [e3,e4,List.append_assoc],⟨v1,v3,rfl,k1,k3⟩,k4⟩
   ·cases h
  ·cases h
end
end
end Go.Proofs.YtdbjakibneeeiaaGreatDoor.Sx
namespace Go.Proofs.YtdbjakibneeeiaaGreatDoor.Sx
open Go.RowKit
variable {Ob : Nat → Prop}
abbrev DK:=MD→List TD→TD→Prop
def jB (cs:List TD) (off n:Nat):List TD:=(cs.drop off).take n
def iZ (ag:Option Nat) (cs:List TD) (off:Nat):Option TD:=match ag with
 | none=>match nth cs off with
  | some .any=>none
  | some x=>some x
  | none=>none
 | some n=>bif dvals (jB cs off n)&&(jB cs off n).length==n then some (.g (jB cs off n)) else none
def yU (E:Env) (st:Bool) (ty:TypeId) (a:TD) (md0 md:MD) (td:List TD) (k:DK):Prop:=
 match lk E.agg ty with
 | none=>False
 | some ag=>match a with
  | .p b off=>match (md0.own[b]?).join with
   | some (cs,_)=>match iZ ag cs off with
    | some x=>k md td x
    | none=>False
   | none=>False
  | .q i sz j off=>match (md0.rows[i]?).join with
   | some r=>match iZ ag (eR r.s (r.l.getD j (Sh.z r.s))) off with
    | some x=>(bif sz==r.size then True else False)∧j<r.l.length∧k md td x
    | none=>False
   | none=>False
  | .e s L j off=>match iZ ag (eR s (L.getD j (Sh.z s))) off with
   | some x=>(bif st then True else False)∧j<L.length∧k md td x
   | none=>False
  | _=>False
section
variable {P : Program} {W : World} {G : Option Nat} {Q : Ending → World → Prop} {E : Env} {ds : List Deferred}
def LV {A ad:Addr} {k:Nat} (h0:A.spot=none) (hb:ad.block=A.block) (ho:ad.off=A.off+k) (hs:A.spot=none→ad.spot=none) (j:Nat):ad.add j=A.add (k+j):=by
 obtain ⟨b,o,s⟩:=A
 obtain ⟨b',o',s'⟩:=ad
 simp only at hb ho h0 hs
 subst hb ho h0
 obtain rfl:s'=none:=hs rfl
 unfold Addr.add
 by_cases h1:j=0 <;> by_cases h2:k+j=0 <;> simp_all <;> omega
def kN {m:M} {β ρ} {w:World} (hM:Mem W G m β ρ w):∀a xs,eC m.facts a xs→At w a xs:=fun a xs h=>by
 rcases h with rfl | ⟨φ,h1,h2,h3⟩
 ·exact fun g hg=>by cases hg
 ·intro g hg
  obtain ⟨_,o,ho,hh⟩:=hM.fact φ h1 g (h2.trans hg)
  exact ⟨o,ho,h3 o hh⟩
def zo {m:M} {β ρ} {w:World} (hM:Mem W G m β ρ w) {A ad:Addr} {xs:List Value} {k:Nat} (hm:eC m.facts (some A) xs) (hb:ad.block=A.block) (ho:ad.off=A.off+k) (hs:A.spot=none→ad.spot=none) {j:Nat} {u:Value} (hu:xs[k+j]?=some u):w.cell? (ad.add j)=some u:=by
 have h1:At w (some A) xs:=kN hM _ _ hm
 obtain ⟨o,_,ho'⟩:=h1 A.block rfl
 have h0:A.spot=none:=(ho' A rfl).1
 rw [LV h0 hb ho hs]
 exact h1.cell hu
def oC {fs:List Fact}:∀{cs:List TD} {vs:List Value} {off:Nat} {y:TD},bz fs cs vs→cs[off]?=some y→∃u,vs[off]?=some u∧gD fs y u
 | [],_,_,_,_,h=>by simp at h
 | c::cs,_,0,y,⟨z,zs,e,h1,h2⟩,h=>by
  obtain rfl:c=y:=by simpa using h
  exact ⟨z,by rw [e];rfl,h1⟩
 | c::cs,_,off+1,y,⟨z,zs,e,h1,h2⟩,h=>by
  obtain ⟨u,hu,hr⟩:=oC h2 (off:=off) (by simpa using h)
  exact ⟨u,by rw [e];exact hu,hr⟩
def s6 {fs:List Fact} {cs:List TD} {vs:List Value} (h:bz fs cs vs) {ag:Option Nat} {off:Nat} {x:TD} (hx:iZ ag cs off=some x) :
  match ag with
  | none=>∃u,vs[off]?=some u∧gD fs x u
  | some n=>((vs.drop off).take n).length=n∧gD fs x (.agg ((vs.drop off).take n).toArray):=by
 cases ag with
 | none=>
  simp only [iZ,eU] at hx
  cases hc:cs[off]? with
  | none=>rw [hc] at hx;cases hx
  | some y=>
   rw [hc] at hx
   have hy:y=x:=by
    cases y <;> first | (simp at hx;done) | exact Option.some.inj hx
   subst hy
   exact oC h hc
 | some n=>
  simp only [iZ] at hx
  cases hb:(dvals (jB cs off n)&&(jB cs off n).length==n) with
  | false=>rw [hb] at hx;cases hx
  | true=>
   rw [hb] at hx
   cases hx
   simp only [Bool.and_eq_true,beq_iff_eq] at hb
   have h3:bz fs (jB cs off n) ((vs.drop off).take n):=(h.drop off).take n
   exact ⟨by rw [h3.len];exact hb.2,_,rfl,h3⟩
def x3 {α:Type} {l:List α} {j:Nat} {z:α} (h:j<l.length):l[j]?=some (l.getD j z):=by
 rw [List.getD_eq_getElem?_getD,List.getElem?_eq_getElem h];rfl
def Cv {xs us:List Value} {o:Nat} (h:∀(i:Nat) (u:Value),us[i]?=some u→xs[o+i]?=some u) {off n:Nat}:∀(i:Nat) (u:Value),((us.drop off).take n)[i]?=some u→xs[o+off+i]?=some u:=fun i u hu=>by
 rw [List.getElem?_take] at hu
 split at hu
 ·rw [List.getElem?_drop] at hu
  rw [Nat.add_assoc]
  exact h _ u hu
 ·cases hu
def zP (hE:E.Ok P) {o:Oper} {ty:TypeId} {a:Operand} (ho:o.op=.load ty a) {fs fs0:List Fact} {st:Bool} {md0 md:MD} {m0 m:M} {td:List TD} {t:List T} {kd:DK} {k:M→List T→T→Tree}
  (h0:RM Ob fs0 md0 m0) (hsub:∀φ∈fs0,φ∈fs) (hst:st=true→fs0=fs) (hm:RM Ob fs md m) (ht:aS fs td t) (h:yU E st ty (dev td a) md0 md td kd)
  (K:∀xd x,bJ fs xd x→kd md td xd→(k m t x).aD P W G Q ds):(step0 E o m0 m t k).aD P W G Q ds:=by
 have ha:=ht.ev a
 simp only [step0,ho]
 unfold yU at h
 cases hag:lk E.agg ty with
 | none=>rw [hag] at h;exact h.elim
 | some ag=>
  rw [hag] at h
  simp only at h
  cases hd:dev td a with
  | p b off=>
   rw [hd] at h ha
   have ha:ev t a=.p b off:=ha
   rw [ha]
   simp only at h ⊢
   cases hb:(md0.own[b]?).join with
   | none=>rw [hb] at h;exact h.elim
   | some q=>
    obtain ⟨cs,e⟩:=q
    rw [hb] at h
    simp only at h
    cases hx:iZ ag cs off with
    | none=>rw [hx] at h;exact h.elim
    | some x=>
     rw [hx] at h
     obtain ⟨ts,hts,hr⟩:=h0.own b cs e (Option.join_eq_some_iff.1 hb)
     have hc:m0.cells b=some (ts,e):=by unfold M.cells;rw [hts];rfl
     rw [hc]
     cases ag with
     | none=>
      simp only [iZ,eU] at hx
      cases hy:cs[off]? with
      | none=>rw [hy] at hx;cases hx
      | some y=>
       rw [hy] at hx
       have hyx:y=x∧y≠.any:=by
        cases y <;> first | (simp at hx;done) | exact ⟨Option.some.inj hx,by simp⟩
       obtain ⟨rfl,hna⟩:=hyx
       obtain ⟨u,hu,hur⟩:=hr.2 off y hy
       simp only [eU,hu]
       cases u with
       | any=>
        cases y with
        | any=>exact absurd rfl hna
        | p _ _=>cases hur
        | fn _ _=>cases hur
        | s _ _=>cases hur
        | r _=>cases hur
        | q _ _ _ _=>cases hur
        | v _=>cases hur
        | e _ _ _ _=>obtain ⟨_,_,_,e,_⟩:=hur;cases e
        | d _ _=>obtain ⟨_,e,_⟩:=hur;cases e
        | g _=>obtain ⟨_,e,_⟩:=hur;cases e
        | u _=>obtain ⟨_,e,_⟩:=hur;cases e
       | _=>exact K _ _ (hur.mono hsub) h
     | some n=>
      simp only [iZ] at hx
      cases hb2:(dvals (jB cs off n)&&(jB cs off n).length==n) with
      | false=>rw [hb2] at hx;cases hx
      | true=>
       rw [hb2] at hx
       cases hx
       simp only [Bool.and_eq_true,beq_iff_eq] at hb2
       obtain ⟨vs,e1,e2,e3⟩:=fR ((hr.drop off).take n) hb2.1
       simp only [e1]
       have hl:vs.length=n:=by rw [e2.len];exact hb2.2
       simp only [hl,beq_self_eq_true,cond_true]
       exact K (.g (jB cs off n)) _ ⟨_,rfl,vs,rfl,e2.mono hsub⟩ h
  | q i sz j off=>
   rw [hd] at h ha
   have ha:ev t a=.q i (j*sz+off):=ha
   rw [ha]
   simp only at h ⊢
   cases hb:(md0.rows[i]?).join with
   | none=>rw [hb] at h;exact h.elim
   | some r=>
    rw [hb] at h
    simp only at h
    cases hx:iZ ag (eR r.s (r.l.getD j (Sh.z r.s))) off with
    | none=>rw [hx] at h;exact h.elim
    | some x=>
     rw [hx] at h
     simp only at h
     obtain ⟨h1,h2,h⟩:=h
     have hsz:sz=r.size:=by
      cases hq:sz==r.size with
      | true=>exact eq_of_beq hq
      | false=>rw [hq] at h1;exact h1.elim
     obtain ⟨xs,hxs,hz,hl⟩:=h0.row i r (Option.join_eq_some_iff.1 hb)
     rw [hxs]
     obtain ⟨us,hus,hat⟩:=hl.at (fun x vs=>aW.len (s:=r.s)) (x3 (z:=Sh.z r.s) h2)
     rw [← hz,← hsz] at hat
     have hcr:=gY (s:=r.s) hus
     have hk:=s6 hcr hx
     cases ag with
     | none=>
      obtain ⟨u,hu,hur⟩:=hk
      exact ⟨[u],rfl,fun i' u' hu'=>by
       cases i' with
       | zero=>
        obtain rfl:u=u':=by simpa using hu'
        exact hat off u hu
       | succ i'=>simp at hu',K _ _ (ia (hur.mono hsub)) h⟩
     | some n=>
      obtain ⟨hn,hur⟩:=hk
      exact ⟨(us.drop off).take n,hn,fun i' u' hu'=>Cv hat i' u' hu',K _ _ (ia (hur.mono hsub)) h⟩
  | e s L j off=>
   rw [hd] at h ha
   simp only at h
   cases hx:iZ ag (eR s (L.getD j (Sh.z s))) off with
   | none=>rw [hx] at h;exact h.elim
   | some x=>
    rw [hx] at h
    simp only at h
    obtain ⟨h1,h2,h⟩:=h
    have hst:=hst (by cases st;exact h1.elim;rfl)
    obtain ⟨A,xs,ad,e1,hl,hf,hb,hoff,hs⟩:=ha
    rw [e1]
    simp only
    obtain ⟨us,hus,hat⟩:=hl.at (fun x vs=>aW.len (s:=s)) (x3 (z:=Sh.z s) h2)
    have hk:=s6 (gY (s:=s) hus) hx
    have hf0:eC m0.facts (some A) xs:=by rw [h0.fe,hst];exact hf
    cases ag with
    | none=>
     obtain ⟨u,hu,hur⟩:=hk
     refine ⟨u,fun β ρ w hM=>?_,K _ _ (ia hur) h⟩
     rw [hE.agg1 ty hag]
     have:=zo hM hf0 (k:=j*s.size+off) (j:=0) hb (by have h9:ad.off=_:=hoff;omega) hs (by rw [Nat.add_zero];exact hat off u hu)
     have h9:w.cell? ad=some u:=this
     simp [load,Sem.run,h9]
    | some n=>
     obtain ⟨hn,hur⟩:=hk
     refine ⟨.agg ((us.drop off).take n).toArray,fun β ρ w hM=>?_,K _ _ (ia hur) h⟩
     exact hE.aggN ty n hag ad w _ hn fun i' u' hu'=>zo hM hf0 hb (by have h9:ad.off=_:=hoff;omega) hs (Cv hat i' u' hu')
  | _=>rw [hd] at h;exact h.elim
end
end Go.Proofs.YtdbjakibneeeiaaGreatDoor.Sx
namespace Go.Proofs.YtdbjakibneeeiaaGreatDoor.Sx
open Go.RowKit
variable {Ob : Nat → Prop}
def lG (i:Nat) (x y:TD):TD:=match y with
 | .r j=>bif i==j then x else y
 | .q j _ _ _=>bif i==j then .any else y
 | y=>y
def yX (b n:Nat) (x y:TD):TD:=match y with
 | .s c k=>bif b==c&&n==k then x else y
 | y=>y
def MD.oD (m:MD) (f:TD→TD):MD:=⟨m.own.map fun q=>q.map fun q=>(q.1.map f,q.2),m.rows⟩
def oh (s:Sh):Nat→List TD→Option (List (Den s))
 | 0,[]=>some []
 | 0,_::_=>none
 | n+1,cs=>match fM s cs with
  | some (x,r)=>match oh s n r with
   | some l=>some (x::l)
   | none=>none
  | none=>none
def gz (sy:List (TypeId×Sh)) (x:TD) (md:MD) (td:List TD) (k:TD→MD→List TD→Prop):Prop:=
 match x with
 | .any=>False
 | .r i=>match (md.rows[i]?).join with
  | some r=>k (.d r.s r.l) (MD.oD { md with rows:=md.rows.set i none } (lG i (.d r.s r.l))) (td.map (lG i (.d r.s r.l)))
  | none=>False
 | .s b n=>match (md.own[b]?).join with
  | some (cs,ty)=>match lk sy ty with
   | some s=>match oh s n cs with
    | some L=>bif dvals cs&&Nat.ble n 1000 then k (.d s L) (MD.oD { md with own:=md.own.set b none } (yX b n (.d s L))) (td.map (yX b n (.d s L))) else False
    | none=>False
   | none=>False
  | none=>False
 | x=>k x md td
abbrev DM:=MD→List TD→Prop
def nY (sy:List (TypeId×Sh)):List TD→MD→List TD→DM→Prop
 | [],md,td,k=>k md td
 | x::l,md,td,k=>gz sy x md td (fun _ md td=>nY sy l md td k)
def cu (sy:List (TypeId×Sh)) (x:TD) (md:MD) (td:List TD) (k:TD→MD→List TD→Prop):Prop:=
 match x with
 | .s b n=>match (md.own[b]?).join with
  | some (cs,_)=>nY sy cs md td (fun md td=>gz sy (.s b n) md td k)
  | none=>False
 | x=>gz sy x md td k
def eY (sy:List (TypeId×Sh)):List TD→MD→List TD→(List TD→MD→List TD→Prop)→Prop
 | [],md,td,k=>k [] md td
 | x::l,md,td,k=>cu sy x md td (fun y md td=>eY sy l md td (fun ys md td=>k (y::ys) md td))
section
variable {P : Program} {W : World} {G : Option Nat} {Q : Ending → World → Prop} {ds : List Deferred} {sy : List (TypeId × Sh)}
def aS.map {fs fs':List Fact} {td:List TD} {t:List T} (h:aS fs td t) {f:TD→TD} {g:T→T} (hfg:∀x y,bJ fs x y→bJ fs' (f x) (g y)):aS fs' (td.map f) (t.map g):=by
 refine ⟨by simp [h.1],fun i c hc=>?_⟩
 rw [List.getElem?_map] at hc ⊢
 cases hi:td[i]? with
 | none=>rw [hi] at hc;cases hc
 | some x=>
  rw [hi] at hc
  obtain ⟨y,hy,hr⟩:=h.2 i x hi
  rw [hy]
  obtain rfl:f x=c:=Option.some.inj hc
  exact ⟨g y,rfl,hfg _ _ hr⟩
def RM.oD {fs fs':List Fact} {md:MD} {m:M} (h:RM Ob fs md m) {f:TD→TD} {g:T→T} (hfg:∀x y,bJ fs x y→bJ fs' (f x) (g y)) (gs:List Fact) (e:fs'=gs++fs) (ho:∀φ∈gs,∀g,φ.g=some g→Ob g):RM Ob fs' (md.oD f) (M.bP { m with facts:=gs++m.facts } g) where
 fe:=by rw [e,← h.fe];rfl
 ob φ hφ:=by rw [e] at hφ;exact (List.mem_append.1 hφ).elim (ho φ) (h.ob φ)
 ol:=by simp [MD.oD,M.bP,h.ol]
 own b cs ty hb:=by
  simp only [MD.oD,List.getElem?_map] at hb
  cases hq:md.own[b]? with
  | none=>rw [hq] at hb;cases hb
  | some q=>
   rw [hq] at hb
   cases q with
   | none=>cases hb
   | some q=>
    obtain ⟨cs0,ty0⟩:=q
    simp at hb
    obtain ⟨rfl,rfl⟩:=hb
    obtain ⟨ts,h1,h2⟩:=h.own b cs0 ty0 hq
    exact ⟨ts.map g,by simp [M.bP,h1],h2.map hfg⟩
 rl:=h.rl
 row i r hr:=by
  obtain ⟨xs,h1,h2,h3⟩:=h.row i r hr
  exact ⟨xs,h1,h2,bK.mono (fun x vs=>aW.mono (s:=r.s) (fun _ _=>eC.mono (by rw [e];exact fun φ hφ=>List.mem_append_right _ hφ))) h3⟩
def mD {fs fs':List Fact} (hs:∀φ∈fs,φ∈fs') (i:Nat) {X:TD} {Y:T} (hX:bJ fs' X Y):∀x y,bJ fs x y→bJ fs' (lG i X x) (gi i Y y):=fun x y h=>by
 cases x with
 | r j=>
  have h:y=.r j:=h
  subst h
  show bJ fs' (bif i==j then X else .r j) (bif i==j then Y else .r j)
  cases i==j with
  | true=>exact hX
  | false=>exact rfl
 | q j a b c=>
  have h:y=.q j (b*a+c):=h
  subst h
  show bJ fs' (bif i==j then .any else .q j a b c) (bif i==j then .any else _)
  cases i==j with
  | true=>exact trivial
  | false=>exact rfl
 | any=>exact trivial
 | p b o=>have h:y=_:=h;subst h;exact rfl
 | fn f c=>have h:y=_:=h;subst h;exact rfl
 | s b n=>have h:y=_:=h;subst h;exact rfl
 | v x=>have h:y=_:=h;subst h;exact rfl
 | e s L j o=>have k:=h.mono hs;obtain ⟨A,xs,ad,e,_⟩:=h;subst e;exact k
 | d s L=>have k:=h.mono hs;obtain ⟨z,e,_⟩:=h;subst e;exact k
 | g cs=>have k:=h.mono hs;obtain ⟨z,e,_⟩:=h;subst e;exact k
 | u cs=>have k:=h.mono hs;obtain ⟨z,e,_⟩:=h;subst e;exact k
def vU {fs fs':List Fact} (hs:∀φ∈fs,φ∈fs') (b n:Nat) {X:TD} {Y:T} (hX:bJ fs' X Y):∀x y,bJ fs x y→bJ fs' (yX b n X x) (EF b n Y y):=fun x y h=>by
 cases x with
 | s c j=>
  have h:y=.s c j:=h
  subst h
  show bJ fs' (bif b==c&&n==j then X else .s c j) (bif b==c&&n==j then Y else .s c j)
  cases b==c&&n==j with
  | true=>exact hX
  | false=>exact rfl
 | any=>exact trivial
 | p b o=>have h:y=_:=h;subst h;exact rfl
 | fn f c=>have h:y=_:=h;subst h;exact rfl
 | r i=>have h:y=_:=h;subst h;exact rfl
 | q i a b c=>have h:y=_:=h;subst h;exact rfl
 | v x=>have h:y=_:=h;subst h;exact rfl
 | e s L j o=>have k:=h.mono hs;obtain ⟨A,xs,ad,e,_⟩:=h;subst e;exact k
 | d s L=>have k:=h.mono hs;obtain ⟨z,e,_⟩:=h;subst e;exact k
 | g cs=>have k:=h.mono hs;obtain ⟨z,e,_⟩:=h;subst e;exact k
 | u cs=>have k:=h.mono hs;obtain ⟨z,e,_⟩:=h;subst e;exact k
def p8 {fs:List Fact} {s:Sh}:∀{n:Nat} {cs:List TD} {L:List (Den s)} {vs:List Value},oh s n cs=some L→bz fs cs vs→L.length=n∧bK (aW (eC fs) s) L vs
 | 0,[],L,vs,h,k=>by
  cases h
  exact ⟨rfl,k⟩
 | 0,_::_,L,vs,h,k=>by cases h
 | n+1,cs,L,vs,h,k=>by
  simp only [oh] at h
  split at h
  ·rename_i x r e1
   split at h
   ·rename_i l e2
    cases h
    obtain ⟨v1,v2,e3,k1,k2⟩:=mq (s:=s) e1 k
    obtain ⟨h1,h2⟩:=p8 e2 k2
    exact ⟨by rw [List.length_cons,h1],v1,v2,e3,k1,h2⟩
   ·cases h
  ·cases h
def yN (hOb:∀g,W.heap.size≤g∨some g=G→Ob g) {a:Option Addr} {xs:List Value} (h:sE W G a):∀φ∈[ay a xs],∀g,φ.g=some g→Ob g:=fun φ hφ g hg=>by
 simp only [List.mem_singleton] at hφ
 subst hφ
 cases a with
 | none=>cases hg
 | some ad=>exact hOb g (by have h1:=h ad rfl;obtain rfl:ad.block=g:=Option.some.inj hg;exact h1)
abbrev KX (Ob:Nat→Prop) (P:Program) (W:World) (G:Option Nat) (Q:Ending→World→Prop) (ds:List Deferred) (fs:List Fact) (kd:TD→MD→List TD→Prop) (k:T→M→List T→Tree):Prop:=∀fs' xd md td x m t,(∀φ∈fs,φ∈fs')→bJ fs' xd x→RM Ob fs' md m→aS fs' td t→kd xd md td→(k x m t).aD P W G Q ds
def vg {fs:List Fact} {s:Sh} {L:List (Den s)} {xs:List Value} {a:Option Addr} {c:Nat} (hs:Sl a L.length c) (h:bK (aW (eC fs) s) L xs):bJ (ay a xs::fs) (.d s L) (.v (.slice a L.length c)):=by
 refine ⟨_,rfl,a,_,c,xs,rfl,hs,rfl,bK.mono (fun x vs=>aW.mono (s:=s) (fun _ _=>eC.mono fun φ hφ=>.tail _ hφ)) h,?_⟩
 by_cases h0:L.length=0
 ·exact .inl (if_pos h0)
 ·exact .of (by rw [show pt a L.length=a from if_neg h0];exact .head _)
def bF (hOb:∀g,W.heap.size≤g∨some g=G→Ob g) {fs:List Fact} {xd:TD} {x:T} {md:MD} {m:M} {td:List TD} {t:List T} {kd:TD→MD→List TD→Prop} {k:T→M→List T→Tree} (hx:bJ fs xd x) (hm:RM Ob fs md m) (ht:aS fs td t)
  (h:gz sy xd md td kd) (K:KX Ob P W G Q ds fs kd k):(je x m t k).aD P W G Q ds:=by
 cases xd with
 | any=>exact h.elim
 | r i=>
  have hx:x=.r i:=hx
  subst hx
  simp only [gz] at h
  cases hr:(md.rows[i]?).join with
  | none=>rw [hr] at h;exact h.elim
  | some r=>
   rw [hr] at h
   obtain ⟨xs,hxs,hz,hl⟩:=hm.row i r (Option.join_eq_some_iff.1 hr)
   simp only [je,hxs,Option.join_some]
   intro a c hSl hFr
   have hX:=vg (s:=r.s) hSl hl
   have hsub:∀φ∈fs,φ∈ay a xs::fs:=fun φ hφ=>.tail _ hφ
   have hm1:RM Ob fs { md with rows:=md.rows.set i none } { m with rows:=m.rows.set i none }:=
    { fe:=hm.fe,ob:=hm.ob,ol:=hm.ol,own:=hm.own,rl:=by simp [hm.rl],row:=fun j r' hj=>by
        simp only [List.getElem?_set] at hj ⊢
        by_cases e:i=j
        ·rw [if_pos e] at hj;split at hj <;> cases hj
        ·rw [if_neg e] at hj ⊢;exact hm.row j r' hj }
   exact K _ _ _ _ _ _ _ hsub hX (hm1.oD (mD hsub i hX) [ay a xs] rfl (yN hOb hFr)) (ht.map (mD hsub i hX)) h
 | s b n=>
  have hx:x=.s b n:=hx
  subst hx
  simp only [gz] at h
  cases hb:(md.own[b]?).join with
  | none=>rw [hb] at h;exact h.elim
  | some q=>
   obtain ⟨cs,ty⟩:=q
   rw [hb] at h
   simp only at h
   cases hs:lk sy ty with
   | none=>rw [hs] at h;exact h.elim
   | some s=>
    rw [hs] at h
    simp only at h
    cases hp:oh s n cs with
    | none=>rw [hp] at h;exact h.elim
    | some L=>
     rw [hp] at h
     simp only at h
     cases hq:(dvals cs&&Nat.ble n 1000) with
     | false=>rw [hq] at h;exact h.elim
     | true=>
      rw [hq] at h
      have h:kd _ _ _:=h
      rw [Bool.and_eq_true] at hq
      obtain ⟨ts,hts,hrel⟩:=hm.own b cs ty (Option.join_eq_some_iff.1 hb)
      obtain ⟨vs,e1,e2,e3⟩:=fR hrel hq.1
      obtain ⟨hn,hl⟩:=p8 hp e2
      subst hn
      simp only [je,M.cells,hts,Option.join_some,e1,hq.2,cond_true]
      intro a c hSl hFr
      have hX:=vg (s:=s) hSl hl
      have hsub:∀φ∈fs,φ∈ay a vs::fs:=fun φ hφ=>.tail _ hφ
      have hm1:RM Ob fs { md with own:=md.own.set b none } { m with own:=m.own.set b none }:=
       { fe:=hm.fe,ob:=hm.ob,ol:=by simp [hm.ol],own:=fun j cs' ty' hj=>by
           simp only [List.getElem?_set] at hj ⊢
           by_cases e:b=j
           ·rw [if_pos e] at hj;split at hj <;> cases hj
           ·rw [if_neg e] at hj ⊢;exact hm.own j cs' ty' hj,rl:=hm.rl,row:=hm.row }
      exact K _ _ _ _ _ _ _ hsub hX (hm1.oD (vU hsub b _ hX) [ay a vs] rfl (yN hOb hFr)) (ht.map (vU hsub b _ hX)) h
 | p b o=>have hx:x=_:=hx;subst hx;exact K _ (.p b o) _ _ _ _ _ (fun _ h=>h) rfl hm ht h
 | fn f c=>have hx:x=_:=hx;subst hx;exact K _ (.fn f c) _ _ _ _ _ (fun _ h=>h) rfl hm ht h
 | q i a b c=>have hx:x=_:=hx;subst hx;exact K _ (.q i a b c) _ _ _ _ _ (fun _ h=>h) rfl hm ht h
 | v y=>have hx:x=_:=hx;subst hx;exact K _ (.v y) _ _ _ _ _ (fun _ h=>h) rfl hm ht h
 | e s L j o=>have hy:=hx;obtain ⟨A,xs,ad,e,_⟩:=hx;subst e;exact K _ _ _ _ _ _ _ (fun _ h=>h) hy hm ht h
 | d s L=>have hy:=hx;obtain ⟨z,e,_⟩:=hx;subst e;exact K _ _ _ _ _ _ _ (fun _ h=>h) hy hm ht h
 | g cs=>have hy:=hx;obtain ⟨z,e,_⟩:=hx;subst e;exact K _ _ _ _ _ _ _ (fun _ h=>h) hy hm ht h
 | u cs=>have hy:=hx;obtain ⟨z,e,_⟩:=hx;subst e;exact K _ _ _ _ _ _ _ (fun _ h=>h) hy hm ht h
def lJ (hOb:∀g,W.heap.size≤g∨some g=G→Ob g) {kd:DM} {k:M→List T→Tree}:∀(cs:List TD) {fs:List Fact} (ts:List T) {md:MD} {m:M} {td:List TD} {t:List T},aS fs cs ts→RM Ob fs md m→aS fs td t→nY sy cs md td kd→
  (∀fs' md td m t,(∀φ∈fs,φ∈fs')→RM Ob fs' md m→aS fs' td t→kd md td→(k m t).aD P W G Q ds)→(rB ts m t k).aD P W G Q ds
 | [],fs,ts,md,m,td,t,hc,hm,ht,h,K=>by
  have:ts=[]:=List.eq_nil_of_length_eq_zero (by simpa using hc.1.symm)
  subst this
  exact K _ _ _ _ _ (fun _ h=>h) hm ht h
 | c::cs,fs,ts,md,m,td,t,hc,hm,ht,h,K=>by
  obtain ⟨u,us,rfl,h1,h2⟩:=hc.tail
  refine bF hOb h1 hm ht h fun fs' xd md' td' x m' t' hs _ hm' ht' h'=>?_
  exact lJ hOb cs us (h2.mono hs) hm' ht' h' fun fs2 md2 td2 m2 t2 hs2=>K fs2 md2 td2 m2 t2 (fun φ hφ=>hs2 _ (hs _ hφ))
def cM (hOb:∀g,W.heap.size≤g∨some g=G→Ob g) {fs:List Fact} {xd:TD} {x:T} {md:MD} {m:M} {td:List TD} {t:List T} {kd:TD→MD→List TD→Prop} {k:T→M→List T→Tree} (hx:bJ fs xd x) (hm:RM Ob fs md m) (ht:aS fs td t)
  (h:cu sy xd md td kd) (K:KX Ob P W G Q ds fs kd k):(dV x m t k).aD P W G Q ds:=by
 cases xd with
 | s b n=>
  have hx:x=.s b n:=hx
  subst hx
  simp only [cu] at h
  cases hb:(md.own[b]?).join with
  | none=>rw [hb] at h;exact h.elim
  | some q=>
   obtain ⟨cs,ty⟩:=q
   rw [hb] at h
   obtain ⟨ts,hts,hrel⟩:=hm.own b cs ty (Option.join_eq_some_iff.1 hb)
   simp only [dV,M.cells,hts,Option.join_some]
   refine lJ hOb cs ts hrel hm ht h fun fs' md' td' m' t' hs hm' ht' h'=>?_
   exact bF hOb (sy:=sy) (xd:=.s b n) rfl hm' ht' h' fun fs2 xd2 md2 td2 x2 m2 t2 hs2=>K fs2 xd2 md2 td2 x2 m2 t2 (fun φ hφ=>hs2 _ (hs _ hφ))
 | any=>exact h.elim
 | r i=>have e:x=_:=hx;subst e;exact bF hOb (sy:=sy) (xd:=.r i) rfl hm ht h K
 | p b o=>have e:x=_:=hx;subst e;exact bF hOb (sy:=sy) (xd:=.p b o) rfl hm ht h K
 | fn f c=>have e:x=_:=hx;subst e;exact bF hOb (sy:=sy) (xd:=.fn f c) rfl hm ht h K
 | q i a b c=>have e:x=_:=hx;subst e;exact bF hOb (sy:=sy) (xd:=.q i a b c) rfl hm ht h K
 | v y=>have e:x=_:=hx;subst e;exact bF hOb (sy:=sy) (xd:=.v y) rfl hm ht h K
 | e s L j o=>have hy:=hx;obtain ⟨A,xs,ad,e,_⟩:=hx;subst e;exact bF hOb (sy:=sy) hy hm ht h K
 | d s L=>have hy:=hx;obtain ⟨z,e,_⟩:=hx;subst e;exact bF hOb (sy:=sy) hy hm ht h K
 | g cs=>have hy:=hx;obtain ⟨z,e,_⟩:=hx;subst e;exact bF hOb (sy:=sy) hy hm ht h K
 | u cs=>have hy:=hx;obtain ⟨z,e,_⟩:=hx;subst e;exact bF hOb (sy:=sy) hy hm ht h K
def cN (hOb:∀g,W.heap.size≤g∨some g=G→Ob g) {kd:List TD→MD→List TD→Prop} {k:List T→M→List T→Tree}:∀(cs:List TD) {fs:List Fact} (ts:List T) {md:MD} {m:M} {td:List TD} {t:List T},aS fs cs ts→RM Ob fs md m→aS fs td t→eY sy cs md td kd→
  (∀fs' cs' md td ts' m t,(∀φ∈fs,φ∈fs')→aS fs' cs' ts'→RM Ob fs' md m→aS fs' td t→kd cs' md td→(k ts' m t).aD P W G Q ds)→(bW ts m t k).aD P W G Q ds
 | [],fs,ts,md,m,td,t,hc,hm,ht,h,K=>by
  have:ts=[]:=List.eq_nil_of_length_eq_zero (by simpa using hc.1.symm)
  subst this
  exact K _ _ _ _ _ _ _ (fun _ h=>h) aS.nil hm ht h
 | c::cs,fs,ts,md,m,td,t,hc,hm,ht,h,K=>by
  obtain ⟨u,us,rfl,h1,h2⟩:=hc.tail
  refine cM hOb h1 hm ht h fun fs' xd md' td' x m' t' hs hx hm' ht' h'=>?_
  exact cN hOb (kd:=fun ys md td=>kd (xd::ys) md td) cs us (h2.mono hs) hm' ht' h' fun fs2 cs2 md2 td2 ts2 m2 t2 hs2 hc2 hm2 ht2 h2=>K fs2 (xd::cs2) md2 td2 (x::ts2) m2 t2 (fun φ hφ=>hs2 _ (hs _ hφ)) (aS.cons (hx.mono hs2) hc2) hm2 ht2 h2
end
end Go.Proofs.YtdbjakibneeeiaaGreatDoor.Sx
namespace Go.Proofs.YtdbjakibneeeiaaGreatDoor.Sx
open Go.RowKit
variable {Ob : Nat → Prop}
def Bc:(s:Sh)→Den s→TD
 | .flat l,x=>.g (m7 l x)
 | .int,x=>.v (.int .i64 x)
 | .bool,x=>.v (.bool x)
 | .str,x=>.v (.string x)
 | .num _,x=>.v x
 | .row e,x=>.d e x
def Ci:(l:List Sh)→af l→List TD
 | [],_=>[]
 | s::l,x=>Bc s x.1::Ci l x.2
def Fe:(l:List Sh)→af l→TD
 | [s],x=>Bc s x.1
 | l,x=>.u (Ci l x)
def fF:(s:Sh)→TD→Option (Den s)
 | .flat l,.g cs=>match uF l cs with
  | some (x,[])=>some x
  | _=>none
 | .flat _,_=>none
 | .int,t=>match fM .int [t] with
  | some (x,_)=>some x
  | none=>none
 | .bool,t=>match fM .bool [t] with
  | some (x,_)=>some x
  | none=>none
 | .str,t=>match fM .str [t] with
  | some (x,_)=>some x
  | none=>none
 | .num k,t=>match fM (.num k) [t] with
  | some (x,_)=>some x
  | none=>none
 | .row e,t=>match fM (.row e) [t] with
  | some (x,_)=>some x
  | none=>none
def iE:(l:List Sh)→List TD→Option (af l)
 | [],[]=>some ()
 | s::l,t::ts=>match fF s t with
  | some x=>match iE l ts with
   | some y=>some (x,y)
   | none=>none
  | none=>none
 | _,_=>none
def fY (R:Option Addr→List Value→Prop):(s:Sh)→Den s→Value→Prop
 | .flat l,x,y=>∃cs:List Value,y=.agg cs.toArray∧dz R l x cs
 | .int,x,y=>y=.int .i64 x
 | .bool,x,y=>y=.bool x
 | .str,x,y=>y=.string x
 | .num _,x,y=>y=x∧Value.oneCell' x=true
 | .row e,x,y=>aW R (.row e) x [y]
def cn (R:Option Addr→List Value→Prop):(l:List Sh)→af l→List Value→Prop
 | [],_,vs=>vs=[]
 | s::l,x,vs=>∃y us,vs=y::us∧fY R s x.1 y∧cn R l x.2 us
def Ar (w:World) (O:Nat→Prop) (a:Option Addr) (xs:List Value):Prop:=At w a xs∧∀g,a.map (·.block)=some g→O g
mutual
def Qk:(s:Sh)→Den s→Prop
 | .int,_=>True
 | .bool,_=>True
 | .str,_=>True
 | .num _,_=>True
 | .flat l,x=>NG l x
 | .row e,L=>List.length (α:=Den e) L≤maxLen∧∀x:Den e,List.Mem x L→Qk e x
termination_by structural s=>s
def NG:(l:List Sh)→af l→Prop
 | [],_=>True
 | s::l,x=>Qk s x.1∧NG l x.2
termination_by structural l=>l
end
def zg {α:Type} {Q:α→List Value→Prop}:∀{L:List α} {vs:List Value},bK Q L vs→∀x,List.Mem x L→∃v,Q x v
 | [],_,_,x,h=>by cases h
 | y::L,_,⟨v1,v2,e,h1,h2⟩,x,h=>by
  cases h with
  | head=>exact ⟨v1,h1⟩
  | tail _ h=>exact zg h2 x h
mutual
def aW.sz {R:Option Addr→List Value→Prop}:∀{s:Sh} {x:Den s} {vs:List Value},aW R s x vs→Qk s x
 | .int,_,_,_=>trivial
 | .bool,_,_,_=>trivial
 | .str,_,_,_=>trivial
 | .num _,_,_,_=>trivial
 | .flat l,_,_,h=>dz.sz (l:=l) h
 | .row e,L,_,⟨a,n,c,xs,e1,e2,e3,h,r⟩=>⟨by have:=e2.1;have:=e2.2.1;rw [← e3];omega,fun x hx=>by obtain ⟨v,hv⟩:=zg h x hx;exact aW.sz (s:=e) hv⟩
def dz.sz {R:Option Addr→List Value→Prop}:∀{l:List Sh} {x:af l} {vs:List Value},dz R l x vs→NG l x
 | [],_,_,_=>trivial
 | s::l,_,_,⟨v1,v2,e,h1,h2⟩=>⟨aW.sz (s:=s) h1,dz.sz (l:=l) h2⟩
end
def fY.sz {R:Option Addr→List Value→Prop} {s:Sh} {x:Den s} {y:Value} (h:fY R s x y):Qk s x:=by
 cases s with
 | flat l=>obtain ⟨cs,_,h⟩:=h;exact dz.sz (l:=l) h
 | row e=>exact aW.sz (s:=.row e) h
 | _=>trivial
def cn.sz {R:Option Addr→List Value→Prop}:∀{l:List Sh} {x:af l} {vs:List Value},cn R l x vs→NG l x
 | [],_,_,_=>trivial
 | s::l,_,_,⟨y,us,e,h1,h2⟩=>⟨h1.sz,cn.sz h2⟩
structure B4 where
 ps:List Sh
 rs:List Sh
 pre:af ps→Prop
 F:af ps→af rs
structure I0 where
 ps:List Sh
 s:Sh
 e:TypeId
 size:Nat
 pre:af ps→Prop
 F:af ps→List (Den s)
def B4.Ok (P:Program) (B:World→Prop) (f:FuncId) (S:B4):Prop:=
 ∀(O:Nat→Prop) (w:World) (x:af S.ps) (vs:List Value),B w→S.pre x→cn (Ar w O) S.ps x vs→Calls P f (List.toArray vs) w fun e w'=>∃us,e=.returned (YO us)∧Below w.heap.size w w'∧cn (Ar w' fun g=>w.heap.size≤g∨O g) S.rs (S.F x) us
def I0.Ok (P:Program) (B:World→Prop) (f:FuncId) (S:I0):Prop:=
 ∀(R:Option Addr→List Value→Prop) (w:World) (x:af S.ps) (vs:List Value),B w→S.pre x→(∀a xs,R a xs→At w a xs)→cn R S.ps x vs→Calls P f (List.toArray vs) w fun e' w'=>∃v ys,e'=.returned v∧Below w.heap.size w w'∧w'.ownsRow w.heap.size S.e S.size v (S.F x).length ys∧bK (aW R S.s) (S.F x) ys
section
variable {R R' : Option Addr → List Value → Prop} {fs : List Fact}
def fY.mono (h:∀a xs,R a xs→R' a xs) {s:Sh} {x:Den s} {y:Value} (k:fY R s x y):fY R' s x y:=by
 cases s with
 | flat l=>exact k.imp fun cs ⟨e,k⟩=>⟨e,dz.mono h (l:=l) k⟩
 | row e=>exact aW.mono h (s:=.row e) k
 | _=>exact k
def cn.mono (h:∀a xs,R a xs→R' a xs):∀{l:List Sh} {x:af l} {vs:List Value},cn R l x vs→cn R' l x vs
 | [],_,_,k=>k
 | s::l,_,_,⟨y,us,e,k1,k2⟩=>⟨y,us,e,fY.mono h k1,cn.mono h k2⟩
def sZ {s:Sh} {x:Den s} {y:Value} (h:fY (eC fs) s x y):gD fs (Bc s x) y:=by
 cases s with
 | flat l=>obtain ⟨cs,e,k⟩:=h;exact ⟨cs,e,lH (l:=l) k⟩
 | row e=>exact h
 | num _=>exact h.1
 | _=>exact h
def mw:∀{l:List Sh} {x:af l} {vs:List Value},cn (eC fs) l x vs→bz fs (Ci l x) vs
 | [],_,_,k=>k
 | s::l,_,_,⟨y,us,e,k1,k2⟩=>⟨y,us,e,sZ k1,mw k2⟩
def wo {l:List Sh} {x:af l} {vs:List Value} (h:cn (eC fs) l x vs):gD fs (Fe l x) (YO vs):=by
 match l,x,h with
 | [],x,h=>exact ⟨vs,by have h:vs=[]:=h;rw [h];rfl,mw h⟩
 | [s],x,⟨y,us,e,k1,k2⟩=>
  have k2:us=[]:=k2
  rw [e,k2]
  exact sZ k1
 | s::s2::l,x,h=>
  obtain ⟨y,us,e,k1,y2,us2,e2,k2,k3⟩:=id h
  exact ⟨vs,by rw [e,e2];rfl,mw h⟩
def wj {s:Sh} {t:TD} {x:Den s} {y:Value} (h:fF s t=some x) (k:gD fs t y):fY (eC fs) s x y:=by
 have one:∀{s:Sh} {x:Den s} {r:List TD},fM s [t]=some (x,r)→s.size=1→aW (eC fs) s x [y]:=fun {s x r} h hz=>by
  obtain ⟨v1,v2,e,k1,k2⟩:=mq (s:=s) h (⟨y,[],rfl,k,rfl⟩:bz fs [t] [y])
  have hl:=aW.len (s:=s) k1
  rw [hz] at hl
  match v1,hl with
  | [z],_=>
   obtain rfl:y=z:=by simpa using congrArg List.head? e
   exact k1
 cases s with
 | flat l=>
  cases t with
  | g cs=>
   simp only [fF] at h
   split at h
   ·rename_i x' e1
    cases h
    obtain ⟨vs,e,k⟩:=k
    obtain ⟨v1,v2,e2,k1,k2⟩:=qh (l:=l) e1 k
    have k2:v2=[]:=k2
    exact ⟨vs,e,by rw [e2,k2,List.append_nil];exact k1⟩
   ·cases h
  | _=>cases h
 | int=>
  simp only [fF] at h
  split at h
  ·rename_i x' r e1
   cases h
   have k1:=one e1 rfl
   show y=Value.int .i64 x
   simpa [aW] using k1
  ·cases h
 | bool=>
  simp only [fF] at h
  split at h
  ·rename_i x' r e1
   cases h
   have k1:=one e1 rfl
   show y=Value.bool x
   simpa [aW] using k1
  ·cases h
 | str=>
  simp only [fF] at h
  split at h
  ·rename_i x' r e1
   cases h
   have k1:=one e1 rfl
   show y=Value.string x
   simpa [aW] using k1
  ·cases h
 | num q=>
  simp only [fF] at h
  split at h
  ·rename_i x' r e1
   cases h
   have k1:=one e1 rfl
   obtain ⟨k2,k3⟩:=k1
   exact ⟨(List.cons.inj k2).1,k3⟩
  ·cases h
 | row e=>
  simp only [fF] at h
  split at h
  ·rename_i x' r e1;cases h;exact one e1 rfl
  ·cases h
def vK {s:Sh} {t:TD} {x:Den s} (h:fF s t=some x):∀{u:T},bJ fs t u→∃y,u=.v y∧gD fs t y:=fun {u} k=>by
 cases t with
 | v z=>exact ⟨z,k,rfl⟩
 | d s L=>exact k
 | g cs=>exact k
 | u cs=>exact k
 | any=>
  have:fF s .any=none:=by cases s <;> rfl
  rw [this] at h;cases h
 | p b o=>
  have:fF s (.p b o)=none:=by cases s <;> rfl
  rw [this] at h;cases h
 | fn f c=>
  have:fF s (.fn f c)=none:=by cases s <;> rfl
  rw [this] at h;cases h
 | s b n=>
  have:fF s (.s b n)=none:=by cases s <;> rfl
  rw [this] at h;cases h
 | r i=>
  have:fF s (.r i)=none:=by cases s <;> rfl
  rw [this] at h;cases h
 | q i z j o=>
  have:fF s (.q i z j o)=none:=by cases s <;> rfl
  rw [this] at h;cases h
 | e s2 L j o=>
  have:fF s (.e s2 L j o)=none:=by cases s <;> rfl
  rw [this] at h;cases h
def jk:∀{l:List Sh} {cs:List TD} {x:af l} {ts:List T},iE l cs=some x→aS fs cs ts→∃vs,ts=vs.map T.v∧cn (eC fs) l x vs
 | [],[],x,ts,h,k=>by
  have:ts=[]:=List.eq_nil_of_length_eq_zero (by simpa using k.1.symm)
  exact ⟨[],this,rfl⟩
 | [],_::_,_,_,h,_=>by cases h
 | _::_,[],_,_,h,_=>by cases h
 | s::l,c::cs,x,ts,h,k=>by
  simp only [iE] at h
  split at h
  ·rename_i x1 e1
   split at h
   ·rename_i x2 e2
    cases h
    obtain ⟨t,us,rfl,h1,h2⟩:=k.tail
    obtain ⟨y,rfl,hy⟩:=vK e1 h1
    obtain ⟨vs,rfl,hv⟩:=jk e2 h2
    exact ⟨y::vs,rfl,y,vs,rfl,wj e1 hy,hv⟩
   ·cases h
  ·cases h
def wK {β ρ}:∀{vs us:List Value},ak β ρ (vs.map T.v) us→us=vs
 | [],us,h=>List.eq_nil_of_length_eq_zero (by simpa using h.1)
 | v::vs,us,h=>by
  cases us with
  | nil=>have:=h.1;simp at this
  | cons u us=>
   obtain ⟨y,hy,hr⟩:=h.2 0 (.v v) rfl
   simp at hy
   subst hy
   have hr:u=v:=hr
   rw [hr,wK (vs:=vs) (us:=us) ⟨by have:=h.1;simpa using this,fun i x hx=>by obtain ⟨z,hz,hzr⟩:=h.2 (i+1) x (by simpa using hx);exact ⟨z,by simpa using hz,hzr⟩⟩]
def xU (R:Option Addr→List Value→Prop) (gs:List Fact):Prop:=∀φ∈gs,∃a xs,φ=ay a xs∧R a xs
def xU.app {gs hs:List Fact} (h:xU R gs) (k:xU R hs):xU R (gs++hs):=fun φ hφ=>(List.mem_append.1 hφ).elim (h φ) (k φ)
def xM {gs hs:List Fact}:∀a xs,eC gs a xs→eC (gs++hs) a xs:=fun _ _=>eC.mono fun _ h=>List.mem_append_left _ h
def wJ {gs hs:List Fact}:∀a xs,eC hs a xs→eC (gs++hs) a xs:=fun _ _=>eC.mono fun _ h=>List.mem_append_right _ h
mutual
def aW.got:∀{s:Sh} {x:Den s} {vs:List Value},aW R s x vs→∃gs,aW (eC gs) s x vs∧xU R gs
 | .int,_,_,k=>⟨[],k,by simp [xU]⟩
 | .bool,_,_,k=>⟨[],k,by simp [xU]⟩
 | .str,_,_,k=>⟨[],k,by simp [xU]⟩
 | .num _,_,_,k=>⟨[],k,by simp [xU]⟩
 | .flat l,_,_,k=>dz.got (l:=l) k
 | .row e,L,_,⟨a,n,c,xs,e1,e2,e3,k,r⟩=>by
  have key:∀{L:List (Den e)} {xs:List Value},bK (aW R e) L xs→∃gs,bK (aW (eC gs) e) L xs∧xU R gs:=by
   intro L
   induction L with
   | nil=>intro xs k;exact ⟨[],k,by simp [xU]⟩
   | cons z L ih=>
    intro xs ⟨v1,v2,e4,k1,k2⟩
    obtain ⟨gs,h1,h2⟩:=aW.got (s:=e) k1
    obtain ⟨hs,h3,h4⟩:=ih k2
    exact ⟨gs++hs,⟨v1,v2,e4,aW.mono (s:=e) xM h1,bK.mono (fun x vs=>aW.mono (s:=e) wJ) h3⟩,h2.app h4⟩
  obtain ⟨gs,h1,h2⟩:=key k
  exact ⟨ay (pt a n) xs::gs,⟨a,n,c,xs,e1,e2,e3,bK.mono (fun x vs=>aW.mono (s:=e) fun _ _=>eC.mono fun _ h=>.tail _ h) h1,.of (.head _)⟩,fun φ hφ=>(List.mem_cons.1 hφ).elim (fun e=>⟨_,_,e,r⟩) (h2 φ)⟩
def dz.got:∀{l:List Sh} {x:af l} {vs:List Value},dz R l x vs→∃gs,dz (eC gs) l x vs∧xU R gs
 | [],_,_,k=>⟨[],k,by simp [xU]⟩
 | s::l,_,_,⟨v1,v2,e,k1,k2⟩=>by
  obtain ⟨gs,h1,h2⟩:=aW.got (s:=s) k1
  obtain ⟨hs,h3,h4⟩:=dz.got (l:=l) k2
  exact ⟨gs++hs,⟨v1,v2,e,aW.mono (s:=s) xM h1,dz.mono (l:=l) wJ h3⟩,h2.app h4⟩
end
def fY.got {s:Sh} {x:Den s} {y:Value} (k:fY R s x y):∃gs,fY (eC gs) s x y∧xU R gs:=by
 cases s with
 | flat l=>obtain ⟨cs,e,k⟩:=k;obtain ⟨gs,h1,h2⟩:=dz.got (l:=l) k;exact ⟨gs,⟨cs,e,h1⟩,h2⟩
 | row e=>exact aW.got (s:=.row e) k
 | _=>exact ⟨[],k,by simp [xU]⟩
def cn.got:∀{l:List Sh} {x:af l} {vs:List Value},cn R l x vs→∃gs,cn (eC gs) l x vs∧xU R gs
 | [],_,_,k=>⟨[],k,by simp [xU]⟩
 | s::l,_,_,⟨y,us,e,k1,k2⟩=>by
  obtain ⟨gs,h1,h2⟩:=fY.got k1
  obtain ⟨hs,h3,h4⟩:=cn.got k2
  exact ⟨gs++hs,⟨y,us,e,fY.mono xM h1,cn.mono wJ h3⟩,h2.app h4⟩
end
mutual
def eM:Sh→List Value
 | .int=>[.int .i64 0]
 | .bool=>[.bool false]
 | .str=>[.string ByteArray.empty]
 | .num k=>[Kh k]
 | .flat l=>xD l
 | .row _=>[.slice none 0 0]
termination_by structural s=>s
def xD:List Sh→List Value
 | []=>[]
 | s::l=>eM s++xD l
termination_by structural l=>l
end
structure DE where
 sy:List (TypeId×Sh)
 sm:List (FuncId×B4)
 fr:List (FuncId×I0)
 idc:List ((TypeId×TypeId)×Unit)
mutual
def ov:Sh→Bool
 | .int=>true
 | .bool=>true
 | .str=>true
 | .num _=>true
 | .flat l=>fZ l
 | .row _=>false
termination_by structural s=>s
def fZ:List Sh→Bool
 | []=>true
 | s::l=>ov s&&fZ l
termination_by structural l=>l
end
mutual
def aW.free {R R':Option Addr→List Value→Prop}:∀{s:Sh} {x:Den s} {vs:List Value},ov s=true→aW R s x vs→aW R' s x vs
 | .int,_,_,_,h=>h
 | .bool,_,_,_,h=>h
 | .str,_,_,_,h=>h
 | .num _,_,_,_,h=>h
 | .flat l,_,_,hf,h=>dz.free (l:=l) hf h
 | .row e,_,_,hf,_=>by cases hf
def dz.free {R R':Option Addr→List Value→Prop}:∀{l:List Sh} {x:af l} {vs:List Value},fZ l=true→dz R l x vs→dz R' l x vs
 | [],_,_,_,h=>h
 | s::l,_,_,hf,⟨v1,v2,e,h1,h2⟩=>by
  have hf:(ov s&&fZ l)=true:=hf
  rw [Bool.and_eq_true] at hf
  exact ⟨v1,v2,e,aW.free (s:=s) hf.1 h1,dz.free (l:=l) hf.2 h2⟩
end
def fY.free {R R':Option Addr→List Value→Prop} {s:Sh} {x:Den s} {y:Value} (hf:ov s=true) (h:fY R s x y):fY R' s x y:=by
 cases s with
 | flat l=>obtain ⟨cs,e,h⟩:=h;exact ⟨cs,e,dz.free (l:=l) hf h⟩
 | row e=>cases hf
 | _=>exact h
def cn.free {R R':Option Addr→List Value→Prop}:∀{l:List Sh} {x:af l} {vs:List Value},fZ l=true→cn R l x vs→cn R' l x vs
 | [],_,_,_,h=>h
 | s::l,_,_,hf,⟨y,us,e,h1,h2⟩=>by
  have hf:(ov s&&fZ l)=true:=hf
  rw [Bool.and_eq_true] at hf
  exact ⟨y,us,e,h1.free hf.1,cn.free hf.2 h2⟩
def xF (x:TD):Bool:=match x with | .v _=>true | .d _ _=>true | .g _=>true | .u _=>true | _=>false
def kC {sy:List (TypeId×Sh)} {md:MD} {td:List TD}:∀(l:List TD) (k:List TD→MD→List TD→Prop),l.all xF=true→eY sy l md td k=k l md td
 | [],k,_=>rfl
 | x::l,k,h=>by
  simp only [List.all_cons,Bool.and_eq_true] at h
  cases x <;> first | exact kC l _ h.2 | cases h.1
def tZ {m:M} {t:List T}:∀(vs:List Value) (k:List T→M→List T→Tree),bW (vs.map T.v) m t k=k (vs.map T.v) m t
 | [],k=>rfl
 | v::vs,k=>tZ vs fun ys m t=>k (.v v::ys) m t
def uo {fs:List Fact}:∀{xs:List TD} {ts:List T},xs.all xF=true→aS fs xs ts→∃vs:List Value,ts=vs.map T.v
 | [],ts,_,h=>⟨[],List.eq_nil_of_length_eq_zero (by simpa using h.1.symm)⟩
 | x::xs,ts,hx,h=>by
  obtain ⟨u,us,rfl,h1,h2⟩:=h.tail
  simp only [List.all_cons,Bool.and_eq_true] at hx
  obtain ⟨vs,rfl⟩:=uo hx.2 h2
  have:∃y,u=.v y:=by
   cases x with
   | v w=>exact ⟨w,h1⟩
   | d s L=>obtain ⟨y,e,_⟩:=h1;exact ⟨y,e⟩
   | g cs=>obtain ⟨y,e,_⟩:=h1;exact ⟨y,e⟩
   | u cs=>obtain ⟨y,e,_⟩:=h1;exact ⟨y,e⟩
   | _=>cases hx.1
  obtain ⟨y,rfl⟩:=this
  exact ⟨y::vs,rfl⟩
def pQ (E:Env) (D:DE) (q:Bool) (g:FuncId) (xs:List TD):Bool:=(ju E q g).isNone&&xs.all xF&&(match lk D.sm g with | some S=>fZ S.rs | none=>false)
def wA (D:DE) (g:FuncId) (xs:List TD) (md:MD) (td:List TD) (k:DK):Prop:=
 match lk D.sm g with
 | some S=>match iE S.ps xs with
  | some x=>S.pre x∧(NG S.rs (S.F x)→k md td (Fe S.rs (S.F x)))
  | none=>False
 | none=>False
def Aa (D:DE) (g:FuncId) (e:TypeId) (size:Nat) (xs:List TD) (md:MD) (td:List TD) (k:DK):Prop:=
 match lk D.fr g with
 | some S=>match iE S.ps xs with
  | some x=>bif e==S.e&&size==S.size&&size==S.s.size then S.pre x∧k { md with rows:=md.rows++[some ⟨e,size,S.s,S.F x⟩] } td (.r md.rows.length) else False
  | none=>False
 | none=>False
def jO (E:Env) (D:DE) (q:Bool) (g:FuncId) (args:List TD) (md:MD) (td:List TD) (k:DK):Prop:=
 match ju E q g with
 | none=>eY D.sy args md td (fun xs md td=>wA D g xs md td k)
 | some (.fresh e size)=>eY D.sy args md td (fun xs md td=>Aa D g e size xs md td k)
 | _=>False
structure DE.Ok (D:DE) (E:Env) (P:Program) (B:World→Prop):Prop where
 sm:∀f S,lk D.sm f=some S→aP P f=true∧S.Ok P B f
 fr:∀f S,lk D.fr f=some S→aP P f=true∧S.Ok P B f
 zero:∀e s cs,lk D.sy e=some s→lk E.zero e=some cs→cs=(eM s).map T.v
 str:∀e s cs places,lk D.sy e=some s→lk E.str e=some (cs,places)→cs=(eM s).map T.v
 idc:∀a b u,lk D.idc (a,b)=some u→∀v w,(convert a b v).run P w=.ok v w
section
variable {P : Program} {W : World} {Q : Ending → World → Prop} {ds : List Deferred} {B : World → Prop} {D : DE} {E : Env}
abbrev KO (Ob:Nat→Prop) (P:Program) (W:World) (Q:Ending→World→Prop) (ds:List Deferred) (fs:List Fact) (kd:DK) (k:M→List T→T→Tree):Prop:=∀fs' md td xd m t x,(∀φ∈fs,φ∈fs')→RM Ob fs' md m→aS fs' td t→bJ fs' xd x→kd md td xd→(k m t x).aD P W none Q ds
def zn (hD:D.Ok E P B) (hB:∀w,Below W.heap.size W w→B w) (hOb:∀g,W.heap.size≤g→Ob g) {g:FuncId} {fs:List Fact} {xs:List TD} {ts:List T} {md:MD} {m:M} {td:List TD} {t:List T} {kd:DK} {k:M→List T→T→Tree}
  (hx:aS fs xs ts) (hm:RM Ob fs md m) (ht:aS fs td t) (h:wA D g xs md td kd) (K:KO Ob P W Q ds fs kd k):(Tree.call g (ts++[]) m (fun v fs=>k (m.eA fs) t (.v v))).aD P W none Q ds:=by
 unfold wA at h
 cases hS:lk D.sm g with
 | none=>rw [hS] at h;exact h.elim
 | some S=>
  rw [hS] at h
  simp only at h
  cases hp:iE S.ps xs with
  | none=>rw [hp] at h;exact h.elim
  | some x=>
   rw [hp] at h
   obtain ⟨hpre,h⟩:=h
   obtain ⟨hcl,hok⟩:=hD.sm g S hS
   obtain ⟨vs,rfl,hl⟩:=jk hp hx
   refine ⟨hcl,fun β ρ w us hM hr=>?_⟩
   rw [List.append_nil] at hr
   rw [wK hr]
   have hl2:cn (Ar w fun g=>∃ψ∈m.facts,ψ.g=some g) S.ps x vs:=cn.mono (fun a xs h=>by
    rw [← hm.fe] at h
    refine ⟨kN hM a xs h,fun g hg=>?_⟩
    rcases h with rfl | ⟨φ,h1,h2,_⟩
    ·cases hg
    ·exact ⟨φ,h1,h2.trans hg⟩) hl
   refine (hok _ w x vs (hB w hM.below) hpre hl2).mono ?_
   rintro e w' ⟨us,rfl,hb,hu⟩
   obtain ⟨gs,h1,h2⟩:=cn.got hu
   refine ⟨YO us,gs,rfl,hb,?_,?_⟩
   ·intro φ hφ g hg
    obtain ⟨a,ys,rfl,h3,h4⟩:=h2 φ hφ
    refine ⟨?_,h3 g hg⟩
    rcases h4 g hg with h5 | h5
    ·exact .inr (.inl h5)
    ·exact .inr (.inr h5)
   ·have hgo:∀φ∈gs,∀g,φ.g=some g→Ob g:=fun φ hφ g hg=>by
     obtain ⟨a,ys,rfl,h3,h4⟩:=h2 φ hφ
     rcases h4 g hg with h5 | ⟨ψ,h5,h6⟩
     ·exact hOb g (Nat.le_trans hM.below.size h5)
     ·exact hm.ob ψ (by rw [← hm.fe];exact h5) g h6
    exact K (gs++fs) md td _ _ t _ (fun φ hφ=>List.mem_append_right _ hφ) (hm.mono gs hgo) (ht.mono fun φ hφ=>List.mem_append_right _ hφ) (ia (gD.mono (fun φ hφ=>List.mem_append_left _ hφ) (wo h1))) (h hu.sz)
def zO (hD:D.Ok E P B) (hB:∀w,Below W.heap.size W w→B w) (hOb:∀g,W.heap.size≤g→Ob g) {g:FuncId} {e:TypeId} {size:Nat} {fs:List Fact} {xs:List TD} {ts:List T} {md:MD} {m:M} {td:List TD} {t:List T} {kd:DK} {k:M→List T→T→Tree}
  (hx:aS fs xs ts) (hm:RM Ob fs md m) (ht:aS fs td t) (h:Aa D g e size xs md td kd) (K:KO Ob P W Q ds fs kd k):(Tree.make g (ts++[]) e size m (fun n ys=>k { m with rows:=m.rows++[some ⟨e,size,n,ys⟩] } t (.r m.rows.length))).aD P W none Q ds:=by
 unfold Aa at h
 cases hS:lk D.fr g with
 | none=>rw [hS] at h;exact h.elim
 | some S=>
  rw [hS] at h
  simp only at h
  cases hp:iE S.ps xs with
  | none=>rw [hp] at h;exact h.elim
  | some x=>
   rw [hp] at h
   simp only at h
   cases hq:(e==S.e&&size==S.size&&size==S.s.size) with
   | false=>rw [hq] at h;exact h.elim
   | true=>
    rw [hq] at h
    simp only [Bool.and_eq_true,beq_iff_eq] at hq
    obtain ⟨⟨rfl,rfl⟩,hz⟩:=hq
    obtain ⟨hpre,h⟩:=h
    obtain ⟨hcl,hok⟩:=hD.fr g S hS
    obtain ⟨vs,rfl,hl⟩:=jk hp hx
    refine ⟨hcl,fun β ρ w us hM hr=>?_⟩
    rw [List.append_nil] at hr
    rw [wK hr]
    refine (hok (eC fs) w x vs (hB w hM.below) hpre (fun a xs h=>kN hM a xs (by rw [hm.fe];exact h)) hl).mono ?_
    rintro e' w' ⟨v,ys,rfl,hb,ho,hn⟩
    refine ⟨v,_,ys,rfl,hb,ho,?_⟩
    refine K fs _ td (.r md.rows.length) _ t _ (fun _ h=>h) ?_ ht (by rw [hm.rl];exact rfl) h
    refine ⟨hm.fe,hm.ob,hm.ol,hm.own,by simp [hm.rl],fun i r hi=>?_⟩
    rcases Nat.lt_or_ge i md.rows.length with hi2 | hi2
    ·rw [List.getElem?_append_left hi2] at hi
     simp only
     rw [List.getElem?_append_left (by rw [← hm.rl];exact hi2)]
     exact hm.row i r hi
    ·rw [List.getElem?_append_right hi2] at hi
     simp only
     rw [List.getElem?_append_right (by rw [← hm.rl];exact hi2),← hm.rl]
     cases hj:i - md.rows.length with
     | succ j=>rw [hj] at hi;simp at hi
     | zero=>
      rw [hj] at hi
      simp at hi
      subst hi
      exact ⟨ys,rfl,hz,hn⟩
def oQ (hD:D.Ok E P B) (hB:∀w,Below W.heap.size W w→B w) (hOb:∀g,W.heap.size≤g→Ob g) {E':Env} {q:Bool} {g:FuncId} {fs:List Fact} {xs:List TD} {ts:List T} {md:MD} {m:M} {td:List TD} {t:List T} {kd:DK} {k:M→List T→T→Tree}
  (hx:aS fs xs ts) (hm:RM Ob fs md m) (ht:aS fs td t) (h:jO E' D q g xs md td kd) (K:KO Ob P W Q ds fs kd k):(jq E' q g ts [] m t k).aD P W none Q ds:=by
 unfold jO at h
 unfold jq
 cases hh:ju E' q g with
 | none=>
  rw [hh] at h
  exact cN (fun g h=>h.elim (hOb g) (fun h=>by cases h)) xs ts hx hm ht h fun fs' cs' md' td' ts' m' t' hs hc' hm' ht' h'=>zn hD hB hOb hc' hm' ht' h' fun fs2 md2 td2 xd m2 t2 x2 hs2=>K fs2 md2 td2 xd m2 t2 x2 fun φ hφ=>hs2 _ (hs _ hφ)
 | some w=>
  rw [hh] at h
  cases w with
  | fresh e size=>exact cN (fun g h=>h.elim (hOb g) (fun h=>by cases h)) xs ts hx hm ht h fun fs' cs' md' td' ts' m' t' hs hc' hm' ht' h'=>zO hD hB hOb hc' hm' ht' h' fun fs2 md2 td2 xd m2 t2 x2 hs2=>K fs2 md2 td2 xd m2 t2 x2 fun φ hφ=>hs2 _ (hs _ hφ)
  | lend=>exact h.elim
  | own=>exact h.elim
def uS (hD:D.Ok E P B) (hB:∀w,Below W.heap.size W w→B w) {E':Env} {q:Bool} {g:FuncId} {fs:List Fact} {xs:List TD} {ts:List T} {md:MD} {m:M} {td:List TD} {t:List T} {kd:DK} {k:M→List T→T→Tree} (hf:pQ E' D q g xs=true)
  (hx:aS fs xs ts) (hm:RM Ob fs md m) (h:jO E' D q g xs md td kd) (K:∀xd x,bJ fs xd x→kd md td xd→(k m t x).aD P W none Q ds):(jq E' q g ts [] m t k).aD P W none Q ds:=by
 unfold pQ at hf
 rw [Bool.and_eq_true,Bool.and_eq_true] at hf
 obtain ⟨⟨hq,hp⟩,hr⟩:=hf
 unfold jO at h
 unfold jq
 rw [Option.isNone_iff_eq_none] at hq
 rw [hq] at h ⊢
 simp only at h ⊢
 obtain ⟨vs0,rfl⟩:=uo hp hx
 rw [kC _ _ hp] at h
 rw [tZ]
 unfold wA at h
 cases hS:lk D.sm g with
 | none=>rw [hS] at h;exact h.elim
 | some S=>
  rw [hS] at h hr
  simp only at h hr
  cases hpk:iE S.ps xs with
  | none=>rw [hpk] at h;exact h.elim
  | some x=>
   rw [hpk] at h
   obtain ⟨hpre,h⟩:=h
   obtain ⟨hcl,hok⟩:=hD.sm g S hS
   obtain ⟨vs,e0,hl⟩:=jk hpk hx
   refine ⟨hcl,fun β ρ w us hM hr'=>?_⟩
   rw [List.append_nil] at hr'
   rw [e0] at hr'
   rw [wK hr']
   have hl2:cn (Ar w fun g=>∃ψ∈m.facts,ψ.g=some g) S.ps x vs:=cn.mono (fun a xs h=>by
    rw [← hm.fe] at h
    refine ⟨kN hM a xs h,fun g hg=>?_⟩
    rcases h with rfl | ⟨φ,h1,h2,_⟩
    ·cases hg
    ·exact ⟨φ,h1,h2.trans hg⟩) hl
   refine (hok _ w x vs (hB w hM.below) hpre hl2).mono ?_
   rintro e w' ⟨us,rfl,hb,hu⟩
   refine ⟨YO us,[],rfl,hb,(fun φ hφ=>by cases hφ),?_⟩
   exact K _ _ (ia (wo (hu.free hr))) (h hu.sz)
end
end Go.Proofs.YtdbjakibneeeiaaGreatDoor.Sx
namespace Go.Proofs.YtdbjakibneeeiaaGreatDoor.Sx
open Go.RowKit
def oF (s:Sh):List TD:=(eM s).map .v
mutual
def mF {R:Option Addr→List Value→Prop} (h0:R none []):∀{s:Sh},aW R s (Sh.z s) (eM s)
 | .int=>rfl
 | .bool=>rfl
 | .str=>rfl
 | .num k=>⟨rfl,Gt k⟩
 | .flat l=>uz h0 (l:=l)
 | .row e=>⟨none,0,0,[],rfl,⟨Nat.le_refl _,Nat.zero_le _,fun _=>⟨rfl,rfl⟩⟩,rfl,rfl,h0⟩
def uz {R:Option Addr→List Value→Prop} (h0:R none []):∀{l:List Sh},dz R l (Sh.zL l) (xD l)
 | []=>rfl
 | s::l=>⟨eM s,xD l,rfl,mF h0,uz h0⟩
end
def jr (P:Program) (s:Sem Next) (k:Value→Prop):Prop:=∃v,(∀w,s.run P w=.ok (.value v) w)∧k v
def Qu (c:Bool) (p q:Prop):Prop:=match c with | true=>p | false=>q
def zJ (tw:Bool) (op:BinOp) (a b:Int) (k:TD→Prop):Prop:=
 match op with
 | .add=>match tw with | true=>k (.v (.int .i64 (IntKind.i64.wrap (a+b)))) | false=>(-9223372036854775808≤a+b∧a+b≤9223372036854775807)∧(k (.v (.int .i64 (a+b))))
 | .sub=>match tw with | true=>k (.v (.int .i64 (IntKind.i64.wrap (a - b)))) | false=>(-9223372036854775808≤a - b∧a - b≤9223372036854775807)∧(k (.v (.int .i64 (a - b))))
 | .mul=>match tw with | true=>k (.v (.int .i64 (IntKind.i64.wrap (a*b)))) | false=>(-9223372036854775808≤a*b∧a*b≤9223372036854775807)∧(k (.v (.int .i64 (a*b))))
 | .eql=>k (.v (.bool (a==b)))
 | .neq=>k (.v (.bool (a != b)))
 | .lss=>k (.v (.bool (decide (a<b))))
 | .leq=>k (.v (.bool (decide (a≤b))))
 | .gtr=>k (.v (.bool (decide (a>b))))
 | .geq=>k (.v (.bool (decide (a≥b))))
 | _=>False
def dh:List TD→Option (List Value)
 | []=>some []
 | .v x::l=>(dh l).map (x :: ·)
 | _::_=>none
def Jb (x:TD):TD:=match x with
 | .g cs=>match dh cs with
  | some vs=>.v (.agg (List.toArray vs))
  | none=>.g cs
 | x=>x
def oE (places:List (Nat×Nat)):List TD→List (Nat×TD)→Option (List TD)
 | cs,[]=>some cs
 | cs,(i,x)::l=>match nth places i with
  | some (off,size)=>match fC x with
   | some xs=>bif xs.length==size&&Nat.ble (off+size) cs.length then oE places (fI cs off xs) l else none
   | none=>none
  | none=>none
def MD.alloc (m:MD) (cs:List TD) (ty:TypeId):MD:={ m with own:=m.own++[some (cs,ty)] }
def MD.cC (m:MD) (b:Nat) (cs:List TD) (ty:TypeId):MD:={ m with own:=m.own.set b (some (cs,ty)) }
def Hr (x:TD):Bool:=match x with | .r _=>true | _=>false
def qm (E:Env) (D:DE) (ty:TypeId) (a x:TD) (md:MD) (td:List TD) (k:DK):Prop:=
 match a with
 | .p b off=>match x with
  | .r i=>match (md.own[b]?).join,lk E.agg ty with
   | some (cs,e),some none=>bif (md.rows[i]?).join.isSome&&Nat.blt off cs.length&&E.keep then k (md.cC b (cs.set off (.r i)) e) td (.v undef) else False
   | _,_=>False
  | .any=>False
  | x=>cu D.sy x md td (fun x md td=>match (md.own[b]?).join with
   | some (cs,e)=>match fC x,lk E.agg ty with
    | some xs,some n=>bif xs.length==n.getD 1&&Nat.ble (off+xs.length) cs.length&&dH xs then k (md.cC b (fI cs off xs) e) td (.v undef) else False
    | _,_=>False
   | none=>False)
 | .q i sz j off=>match (md.rows[i]?).join,fC x,lk E.agg ty with
  | some r,some xs,some n=>match fM r.s (fI (eR r.s (r.l.getD j (Sh.z r.s))) off xs) with
   | some (y,[])=>bif xs.length==n.getD 1&&dH xs&&dvals xs&&sz==r.size&&Nat.ble (off+xs.length) r.s.size then j<r.l.length∧k { md with rows:=md.rows.set i (some ⟨r.e,r.size,r.s,r.l.set j y⟩) } td (.v undef) else False
   | _=>False
  | _,_,_=>False
 | _=>False
def gX (E:Env) (ty:TypeId) (x i:TD) (md:MD) (td:List TD) (k:DK):Prop:=
 match lk E.row ty with
 | some (_,size,_)=>match x,i with
  | .d s L,.v (.int .i64 j)=>bif size==s.size then (0≤j∧j<L.length)∧k md td (.e s L j.toNat 0) else False
  | .r q,.v (.int .i64 j)=>match (md.rows[q]?).join with
   | some r=>bif r.size==size then (0≤j∧j<r.l.length)∧k md td (.q q size j.toNat 0) else False
   | none=>False
  | _,_=>False
 | none=>match x,i with
  | .p b o,.v (.int .i64 j)=>match lk E.arr ty with
   | some (n,size)=>(0≤j∧j<n)∧k md td (.p b (o+j.toNat*size))
   | none=>False
  | _,_=>False
def CZ (E:Env) (ty:TypeId) (x:TD) (md:MD):Option Value:=
 match x with
 | .v (.slice _ n _)=>(lk E.row ty).map fun _=>.int .i64 n
 | .v (.string s)=>(lk E.strs ty).map fun _=>.int .i64 s.size
 | .s _ n=>(lk E.row ty).map fun _=>.int .i64 n
 | .r i=>match (md.rows[i]?).join with
  | some r=>(lk E.row ty).map fun _=>.int .i64 r.l.length
  | none=>none
 | .d _ L=>(lk E.row ty).map fun _=>.int .i64 (List.length L)
 | _=>none
def qI (D:DE) (e:TypeId) (size bytes:Nat) (i:Nat) (r:kP) (y:TD) (md:MD) (td:List TD) (k:DK):Prop:=
 match (match y with
  | .s b n=>match (md.own[b]?).join with
   | some (cs,_)=>bif dvals cs then oh r.s n cs else none
   | none=>none
  | .d s L=>Sh.jA s r.s L
  | .v (.slice none 0 0)=>some []
  | _=>none) with
 | some L=>(r.l.length+L.length≤maxLen∧(r.l.length+L.length)*bytes≤140737488355328)∧k (MD.oD { md with rows:=md.rows.set i (some ⟨e,size,r.s,r.l++L⟩) } (lG i .any)) (td.map (lG i .any)) (.r i)
 | none=>False
def zX (D:DE) (e:TypeId) (size bytes:Nat) (x y:TD) (md:MD) (td:List TD) (k:DK):Prop:=
 match x with
 | .r i=>match (md.rows[i]?).join with
  | some r=>bif r.e==e&&r.size==size then qI D e size bytes i r y md td k else False
  | none=>False
 | .v (.slice none 0 0)=>match lk D.sy e with
  | some s=>bif s.size==size then qI D e size bytes md.rows.length ⟨e,size,s,[]⟩ y { md with rows:=md.rows++[some ⟨e,size,s,[]⟩] } td k else False
  | none=>False
 | _=>False
def su (P:Program) (ty:TypeId) (i:Nat) (cs:List TD):Option TD:=match P.underlying ty with
 | some (.struct fs)=>match fs[i]? with
  | some f=>match P.underlying f.type,P.info? f.type with
   | some (.struct _),some inf=>bif (jB cs f.offset inf.size).length==inf.size then some (.g (jB cs f.offset inf.size)) else none
   | some (.array _ _),some inf=>bif (jB cs f.offset inf.size).length==inf.size then some (.g (jB cs f.offset inf.size)) else none
   | some _,some _=>cs[f.offset]?
   | _,_=>none
  | none=>none
 | _=>none
def qQ (x:TD):Option FuncId:=match x with
 | .v (.func (.func g) first caps)=>bif first.size==0&&caps.size==0 then some g else none
 | _=>none
def dB (P:Program) (E:Env) (D:DE) (o:Oper) (st:Bool) (md0 md:MD) (td:List TD) (k:DK):Prop:=
 match o.op with
 | .move x=>k md td (dev td x)
 | .assign x=>k md td (dev td x)
 | .pick c a b=>match dev td c with
  | .v (.bool c)=>Qu c (k md td (dev td a)) (k md td (dev td b))
  | _=>False
 | .alloc e=>match lk E.zero e,lk D.sy e with
  | some cs,some s=>k (md.alloc (oF s) e) td (.p md.own.length 0)
  | _,_=>False
 | .box e x=>match fC (dev td x) with
  | some xs=>bif dH xs then k (md.alloc xs e) td (.p md.own.length 0) else False
  | none=>False
 | .load ty a=>yU E st ty (dev td a) md0 md td k
 | .store ty a x=>qm E D ty (dev td a) (dev td x) md td k
 | .fieldAddr s x f=>match lk E.off (s,f) with
  | some d=>match dev td x with
   | .p b o=>k md td (.p b (o+d))
   | .q i sz j o=>k md td (.q i sz j (o+d))
   | .e s L j o=>k md td (.e s L j (o+d))
   | _=>False
  | none=>False
 | .indexAddr ty x i=>gX E ty (dev td x) (dev td i) md td k
 | .index ty x i=>match Jb (dev td x),dev td i with
  | .v u,.v b=>jr P (do pure (.value (← Instr.index ty u b))) (fun v=>k md td (.v v))
  | _,_=>False
 | .binOp op ty x y z=>match Jb (dev td x),Jb (dev td y) with
  | .v (.int .i64 a),.v (.int .i64 b)=>bif yO op then zJ E.turns op a b (fun v=>k md td v) else jr P (do eqGuard op ty x y (.int .i64 a) (.int .i64 b);pure (.value (← binOp op ty (.int .i64 a) (.int .i64 b)))) (fun v=>k md td (.v v))
  | .v a,.v b=>jr P (do eqGuard op ty x y a b;pure (.value (← binOp op ty a b))) (fun v=>k md td (.v v))
  | _,_=>False
 | .unOp .not _ x=>match dev td x with
  | .v (.bool b)=>k md td (.v (.bool !b))
  | _=>False
 | .unOp .neg _ x=>match dev td x with
  | .v (.int .i64 a)=>(-9223372036854775808≤-a∧-a≤9223372036854775807)∧(k md td (.v (.int .i64 (-a))))
  | _=>False
 | .convert src dst x=>match dev td x with
  | .v u=>jr P (do pure (.value (← convert src dst u))) (fun v=>k md td (.v v))
  | .any=>False
  | y=>match lk D.idc (src,dst),dvalQ y with
   | some _,true=>k md td y
   | _,_=>False
 | .extract x i=>match dev td x with
  | .u vs=>match vs[i]? with
   | some v=>k md td v
   | none=>False
  | .v (.tuple vs)=>match vs.toList[i]? with
   | some v=>k md td (.v v)
   | none=>False
  | _=>False
 | .build ty parts=>match lk E.str ty,lk D.sy ty with
  | some (_,places),some s=>match oE places (oF s) (parts.toList.map fun q=>(q.1,dev td q.2)) with
   | some cs=>bif dvals cs then k md td (.g cs) else False
   | none=>False
  | _,_=>False
 | .buildSlice ty n parts=>match lk E.row ty with
  | some (e,size,_)=>match lk D.sy e with
   | some s=>bif n==0 then (bif E.quiet||parts.size != 0 || !(s.size==size) then False else k { md with rows:=md.rows++[some ⟨e,size,s,[]⟩] } td (.r md.rows.length)) else match lk E.zero e,oE (eu n size 0) (eG n (oF s)) (parts.toList.map fun q=>(q.1,dev td q.2)) with
    | some _,some cs=>bif dH cs&&s.size==size&&Nat.ble (n*size) 1000 then k (md.alloc cs e) td (.s md.own.length n) else False
    | _,_=>False
   | none=>False
  | none=>False
 | .makeSlice ty l c=>match lk E.row ty,dev td l,dev td c with
  | some (e,size,bytes),.v (.int .i64 j),.v (.int .i64 c)=>match lk E.zero e,lk D.sy e with
   | some _,some s=>bif s.size==size&&(!E.quiet||E.made) then (0≤j∧j=c∧j≤140737488355328∧bytes*j.toNat≤140737488355328)∧k { md with rows:=md.rows++[some ⟨e,size,s,List.replicate j.toNat (Sh.z s)⟩] } td (.r md.rows.length) else False
   | _,_=>False
  | _,_,_=>False
 | .slice ty x lo hi none=>match lk E.row ty,dev td x with
  | some (_,size,_),.d s L=>match lo,hi with
   | none,some h=>match dev td h with
    | .v (.int .i64 j)=>(bif size==s.size then True else False)∧(0≤j∧j≤L.length)∧k md td (.d s (L.take j.toNat))
    | _=>False
   | some l,none=>match dev td l with
    | .v (.int .i64 j)=>(bif size==s.size then True else False)∧(0≤j∧j≤L.length)∧k md td (.d s (L.drop j.toNat))
    | _=>False
   | _,_=>False
  | _,.v u=>match lo,hi with
   | none,some h=>match dev td h with
    | .v b=>jr P (do pure (.value (← Instr.sliceAt ty u none (some b) none))) (fun v=>k md td (.v v))
    | _=>False
   | some l,none=>match dev td l with
    | .v b=>jr P (do pure (.value (← Instr.sliceAt ty u (some b) none none))) (fun v=>k md td (.v v))
    | _=>False
   | _,_=>False
  | _,_=>False
 | .field ty x i=>match dev td x with
  | .g cs=>match su P ty i cs with
   | some y=>k md td y
   | none=>False
  | .v u=>jr P (do pure (.value (← Instr.field ty u i))) (fun v=>k md td (.v v))
  | _=>False
 | .call c=>match c.callee with
  | .value (.func g)=>jO E D false g (c.args.toList.map (dev td)) md td k
  | .value f=>match qQ (dev td f) with
   | some g=>jO E D true g (c.args.toList.map (dev td)) md td k
   | none=>False
  | .builtin .len=>match c.args.toList,c.argTypes.toList with
   | [x],[ty]=>match CZ E ty (dev td x) md with
    | some v=>k md td (.v v)
    | none=>False
   | _,_=>False
  | .builtin .append=>match c.args.toList,c.argTypes.toList with
   | [x,y],[ty,ty2]=>match lk E.row ty with
    | some (e,size,bytes)=>bif ty==ty2 && !E.quiet then zX D e size bytes (dev td x) (dev td y) md td k else False
    | none=>False
   | _,_=>False
  | .builtin .min=>match dh (c.args.toList.map (dev td)) with
   | some vs=>jr P (do pure (.value (← Builtin.min_ c.argTypes o.type (List.toArray vs)))) (fun v=>k md td (.v v))
   | none=>False
  | .builtin .max=>match dh (c.args.toList.map (dev td)) with
   | some vs=>jr P (do pure (.value (← Builtin.max_ c.argTypes o.type (List.toArray vs)))) (fun v=>k md td (.v v))
   | none=>False
  | _=>False
 | _=>False
where
 dvalQ:TD→Bool
  | .g _=>true
  | .d _ _=>true
  | _=>false
end Go.Proofs.YtdbjakibneeeiaaGreatDoor.Sx
namespace Go.Proofs.YtdbjakibneeeiaaGreatDoor.Sx
open Go.RowKit
variable {Ob : Nat → Prop}
def RM.alloc {fs:List Fact} {md:MD} {m:M} (h:RM Ob fs md m) {cs:List TD} {ts:List T} (ty:TypeId) (hr:aS fs cs ts):RM Ob fs (md.alloc cs ty) (m.alloc ts ty) where
 fe:=h.fe
 ob:=h.ob
 ol:=by simp [MD.alloc,M.alloc,h.ol]
 own b cs' ty' hb:=by
  simp only [MD.alloc,M.alloc] at hb ⊢
  rcases Nat.lt_or_ge b md.own.length with hl | hl
  ·rw [List.getElem?_append_left hl] at hb
   rw [List.getElem?_append_left (by rw [← h.ol];exact hl)]
   exact h.own b cs' ty' hb
  ·rw [List.getElem?_append_right hl] at hb
   rw [List.getElem?_append_right (by rw [← h.ol];exact hl),← h.ol]
   cases hj:b - md.own.length with
   | succ j=>rw [hj] at hb;simp at hb
   | zero=>
    rw [hj] at hb
    simp at hb
    obtain ⟨rfl,rfl⟩:=hb
    exact ⟨ts,rfl,hr⟩
 rl:=h.rl
 row:=h.row
def RM.cC {fs:List Fact} {md:MD} {m:M} (h:RM Ob fs md m) (b:Nat) {cs:List TD} {ts:List T} (ty:TypeId) (hr:aS fs cs ts):RM Ob fs (md.cC b cs ty) (m.cC b ts ty) where
 fe:=h.fe
 ob:=h.ob
 ol:=by simp [MD.cC,M.cC,h.ol]
 own b' cs' ty' hb:=by
  simp only [MD.cC,M.cC,List.getElem?_set] at hb ⊢
  by_cases e:b=b'
  ·rw [if_pos e] at hb ⊢
   split at hb
   ·rename_i hl
    rw [if_pos (by rw [← h.ol];exact hl)]
    simp at hb
    obtain ⟨rfl,rfl⟩:=hb
    exact ⟨ts,rfl,hr⟩
   ·cases hb
  ·rw [if_neg e] at hb ⊢
   exact h.own b' cs' ty' hb
 rl:=h.rl
 row:=h.row
def RM.setRow {fs:List Fact} {md:MD} {m:M} (h:RM Ob fs md m) (i:Nat) {r:kP} {xs:List Value} (hz:r.size=r.s.size) (hl:bK (aW (eC fs) r.s) r.l xs):RM Ob fs { md with rows:=md.rows.set i (some r) } { m with rows:=m.rows.set i (some ⟨r.e,r.size,r.l.length,xs⟩) } where
 fe:=h.fe
 ob:=h.ob
 ol:=h.ol
 own:=h.own
 rl:=by simp [h.rl]
 row j r' hj:=by
  simp only [List.getElem?_set] at hj ⊢
  by_cases e:i=j
  ·rw [if_pos e] at hj ⊢
   split at hj
   ·rename_i hl2
    rw [if_pos (by rw [← h.rl];exact hl2)]
    simp at hj
    subst hj
    exact ⟨xs,rfl,hz,hl⟩
   ·cases hj
  ·rw [if_neg e] at hj ⊢
   exact h.row j r' hj
def RM.uh {fs:List Fact} {md:MD} {m:M} (h:RM Ob fs md m) {r:kP} {xs:List Value} (hz:r.size=r.s.size) (hl:bK (aW (eC fs) r.s) r.l xs):RM Ob fs { md with rows:=md.rows++[some r] } { m with rows:=m.rows++[some ⟨r.e,r.size,r.l.length,xs⟩] }:=by
 refine ⟨h.fe,h.ob,h.ol,h.own,by simp [h.rl],fun i r' hi=>?_⟩
 rcases Nat.lt_or_ge i md.rows.length with hi2 | hi2
 ·rw [List.getElem?_append_left hi2] at hi
  simp only
  rw [List.getElem?_append_left (by rw [← h.rl];exact hi2)]
  exact h.row i r' hi
 ·rw [List.getElem?_append_right hi2] at hi
  simp only
  rw [List.getElem?_append_right (by rw [← h.rl];exact hi2),← h.rl]
  cases hj:i - md.rows.length with
  | succ j=>rw [hj] at hi;simp at hi
  | zero=>
   rw [hj] at hi
   simp at hi
   subst hi
   exact ⟨xs,rfl,hz,hl⟩
def ql {fs:List Fact} {places:List (Nat×Nat)}:∀{pd:List (Nat×TD)} {pt:List (Nat×T)} {cs:List TD} {ts:List T} {cs':List TD},aS fs cs ts→(pd.length=pt.length∧∀(i:Nat) p,pd[i]?=some p→∃q,pt[i]?=some q∧q.1=p.1∧bJ fs p.2 q.2)→oE places cs pd=some cs'→∃ts',nX places ts pt=some ts'∧aS fs cs' ts'
 | [],pt,cs,ts,cs',h,hp,hf=>by
  have:pt=[]:=List.eq_nil_of_length_eq_zero (by simpa using hp.1.symm)
  subst this
  cases hf
  exact ⟨ts,rfl,h⟩
 | (i,x)::pd,pt,cs,ts,cs',h,hp,hf=>by
  cases pt with
  | nil=>have:=hp.1;simp at this
  | cons q pt=>
   obtain ⟨q',e1,e2,e3⟩:=hp.2 0 (i,x) rfl
   simp at e1
   subst e1
   obtain ⟨j,y⟩:=q
   have e2:j=i:=e2
   subst e2
   simp only [oE] at hf
   simp only [nX]
   cases hn:nth places j with
   | none=>rw [hn] at hf;cases hf
   | some os=>
    obtain ⟨off,size⟩:=os
    rw [hn] at hf
    simp only at hf ⊢
    cases hc:fC x with
    | none=>rw [hc] at hf;cases hf
    | some xs=>
     rw [hc] at hf
     simp only at hf
     obtain ⟨us,hu,hr⟩:=kn e3 hc
     rw [hu]
     simp only
     rw [← hr.1,← h.1]
     cases hb:(xs.length==size&&Nat.ble (off+size) cs.length) with
     | false=>rw [hb] at hf;cases hf
     | true=>
      rw [hb] at hf
      exact ql (h.fI hr off) ⟨by have:=hp.1;simpa using this,fun k p hk=>by
       obtain ⟨q,h1,h2⟩:=hp.2 (k+1) p (by simpa using hk)
       exact ⟨q,by simpa using h1,h2⟩⟩ hf
def s9 {fs:List Fact} {td:List TD} {t:List T} (ht:aS fs td t) (l:List (Nat×Operand)):(l.map fun q=>(q.1,dev td q.2)).length=(l.map fun q=>(q.1,ev t q.2)).length∧∀(i:Nat) p,(l.map fun q=>(q.1,dev td q.2))[i]?=some p→∃q,(l.map fun q=>(q.1,ev t q.2))[i]?=some q∧q.1=p.1∧bJ fs p.2 q.2:=by
 refine ⟨by simp,fun i p hp=>?_⟩
 rw [List.getElem?_map] at hp ⊢
 cases hi:l[i]? with
 | none=>rw [hi] at hp;cases hp
 | some q=>
  rw [hi] at hp
  obtain rfl:(q.1,dev td q.2)=p:=Option.some.inj hp
  exact ⟨_,rfl,rfl,ht.ev q.2⟩
def jE {fs:List Fact} {td:List TD} {t:List T} (ht:aS fs td t) (l:List Operand):aS fs (l.map (dev td)) (l.map (ev t)):=by
 induction l with
 | nil=>exact aS.nil
 | cons x l ih=>exact aS.cons (ht.ev x) ih
def vJ {fs:List Fact} {cs:List TD} {ts:List T} (h:aS fs cs ts):∀n,aS fs (eG n cs) (eG n ts)
 | 0=>aS.nil
 | n+1=>h.app (vJ h n)
def lD {fs:List Fact}:∀{cs:List TD} {ts:List T} {vs:List Value},aS fs cs ts→dh cs=some vs→aH ts=some vs
 | [],ts,vs,h,k=>by
  have:ts=[]:=List.eq_nil_of_length_eq_zero (by simpa using h.1.symm)
  subst this
  exact k
 | c::cs,ts,vs,h,k=>by
  obtain ⟨t,us,rfl,h1,h2⟩:=h.tail
  cases c with
  | v x=>
   have h1:t=.v x:=h1
   subst h1
   simp only [dh] at k
   cases hv:dh cs with
   | none=>rw [hv] at k;cases k
   | some ws=>
    rw [hv] at k
    simp only [aH,lD h2 hv]
    exact k
  | _=>cases k
mutual
def xw {R:Option Addr→List Value→Prop}:∀{s:Sh} {x:Den s} {vs:List Value},aW R s x vs→∀u∈vs,u.oneCell'=true
 | .int,_,_,k=>by have k:_=_:=k;rw [k];simp [Value.oneCell']
 | .bool,_,_,k=>by have k:_=_:=k;rw [k];simp [Value.oneCell']
 | .str,_,_,k=>by have k:_=_:=k;rw [k];simp [Value.oneCell']
 | .num _,_,_,k=>by rw [k.1];intro u hu;have hu:=List.mem_singleton.1 hu;rw [hu];exact k.2
 | .flat l,_,_,k=>yy (l:=l) k
 | .row e,_,_,⟨_,_,_,_,e1,_⟩=>by rw [e1];simp [Value.oneCell']
def yy {R:Option Addr→List Value→Prop}:∀{l:List Sh} {x:af l} {vs:List Value},dz R l x vs→∀u∈vs,u.oneCell'=true
 | [],_,_,k=>by have k:_=_:=k;rw [k];simp
 | s::l,_,_,⟨v1,v2,e,k1,k2⟩=>by
  rw [e]
  intro u hu
  exact (List.mem_append.1 hu).elim (xw (s:=s) k1 u) (yy (l:=l) k2 u)
end
def sn {R:Option Addr→List Value→Prop} {s:Sh}:∀{L:List (Den s)} {vs:List Value},bK (aW R s) L vs→∀u∈vs,u.oneCell'=true
 | [],_,k=>by have k:_=_:=k;rw [k];simp
 | x::L,_,⟨v1,v2,e,k1,k2⟩=>by
  rw [e]
  intro u hu
  exact (List.mem_append.1 hu).elim (xw (s:=s) k1 u) (sn k2 u)
def bK.setAt {α:Type} {Q:α→List Value→Prop} {z:Nat} (hz:∀x vs,Q x vs→vs.length=z):∀{L:List α} {vs:List Value} {j:Nat},bK Q L vs→j<L.length→∃us pre post,vs=pre++us++post∧pre.length=j*z∧us.length=z∧(∃x,L[j]?=some x∧Q x us)∧∀y ws,Q y ws→bK Q (L.set j y) (pre++ws++post)
 | [],_,_,_,h=>by simp at h
 | x::L,_,0,⟨v1,v2,e,k1,k2⟩,h=>⟨v1,[],v2,by rw [e];simp,by simp,hz _ _ k1,⟨x,rfl,k1⟩,fun y ws hy=>⟨ws,v2,by simp,hy,k2⟩⟩
 | x::L,_,j+1,⟨v1,v2,e,k1,k2⟩,h=>by
  obtain ⟨us,pre,post,e1,e2,e3,⟨x',hx',hq⟩,e5⟩:=bK.setAt hz (j:=j) k2 (by simpa using h)
  refine ⟨us,v1++pre,post,by rw [e,e1];simp,by rw [List.length_append,hz _ _ k1,e2,Nat.succ_mul];omega,e3,⟨x',by simpa using hx',hq⟩,fun y ws hy=>⟨v1,pre++ws++post,by simp,k1,e5 y ws hy⟩⟩
def Hi {pre us post vs:List Value} {off:Nat} (h:off+vs.length≤us.length):fI (pre++us++post) (pre.length+off) vs=pre++fI us off vs++post:=by
 unfold fI
 have h1:(pre++us++post).take (pre.length+off)=pre++us.take off:=by
  rw [List.append_assoc,List.take_append,List.take_of_length_le (by omega),show pre.length+off - pre.length=off by omega,List.take_append_of_le_length (by omega)]
 have h2:(pre++us++post).drop (pre.length+off+vs.length)=us.drop (off+vs.length)++post:=by
  rw [List.append_assoc,List.drop_append,List.drop_eq_nil_of_le (by omega),show pre.length+off+vs.length - pre.length=off+vs.length by omega,List.drop_append_of_le_length h]
  rfl
 rw [h1,h2]
 simp
def bz.fI {fs:List Fact} {cs ds:List TD} {vs us:List Value} (h:bz fs cs vs) (k:bz fs ds us) (o:Nat):bz fs (fI cs o ds) (fI vs o us):=by
 unfold Sx.fI
 rw [← k.len]
 exact ((h.take o).app k).app (h.drop _)
end Go.Proofs.YtdbjakibneeeiaaGreatDoor.Sx
namespace Go.Proofs.YtdbjakibneeeiaaGreatDoor.Sx
open Go.RowKit
variable {Ob : Nat → Prop}
section
variable {P : Program} {W : World} {Q : Ending → World → Prop} {ds : List Deferred} {B : World → Prop} {D : DE} {E : Env}
def CB {fs:List Fact} {xd:TD} {t:T} (h:bJ fs xd t):(∃u,xd=.v u∧t=.v u)∨(∀u,xd≠.v u):=by
 cases xd with
 | v u=>exact .inl ⟨u,rfl,h⟩
 | _=>exact .inr (fun u h=>by cases h)
def xB (hOb:∀g,W.heap.size≤g→Ob g) (hkeep:E.keep=true) {o:Oper} {ty:TypeId} {a x:Operand} (ho:o.op=.store ty a x) {fs:List Fact} {md:MD} {m0 m:M} {td:List TD} {t:List T} {kd:DK} {k:M→List T→T→Tree}
  (hm:RM Ob fs md m) (ht:aS fs td t) (h:qm E D ty (dev td a) (dev td x) md td kd) (K:KO Ob P W Q ds fs kd k):(step0 E o m0 m t k).aD P W none Q ds:=by
 have ha:=ht.ev a
 have hx:=ht.ev x
 simp only [step0,ho]
 unfold qm at h
 cases hd:dev td a with
 | p b off=>
  rw [hd] at h ha
  have ha:ev t a=.p b off:=ha
  rw [ha]
  simp only at h ⊢
  cases hxd:dev td x with
  | r i=>
   rw [hxd] at h hx
   have hx:ev t x=.r i:=hx
   rw [hx]
   simp only at h ⊢
   rw [show (E.keep&&AV (T.r i))=true by rw [hkeep];rfl]
   simp only [cond_true]
   cases hb:(md.own[b]?).join with
   | none=>rw [hb] at h;exact h.elim
   | some q=>
    obtain ⟨cs,e⟩:=q
    rw [hb] at h
    obtain ⟨ts,hts,hr⟩:=hm.own b cs e (Option.join_eq_some_iff.1 hb)
    have hc:m.cells b=some (ts,e):=by unfold M.cells;rw [hts];rfl
    rw [hc]
    cases hag:lk E.agg ty with
    | none=>rw [hag] at h;exact h.elim
    | some ag=>
     rw [hag] at h
     cases ag with
     | some n=>exact h.elim
     | none=>
      simp only at h ⊢
      cases hq:((md.rows[i]?).join.isSome&&Nat.blt off cs.length&&E.keep) with
      | false=>rw [hq] at h;exact h.elim
      | true=>
       rw [hq] at h
       have h:kd _ _ _:=h
       simp only [Bool.and_eq_true] at hq
       have hrow:(m.rows[i]?).join.isSome=true:=by
        cases hri:(md.rows[i]?).join with
        | none=>rw [hri] at hq;exact absurd hq.1.1 (by simp)
        | some r=>
         obtain ⟨xs,hxs,_⟩:=hm.row i r (Option.join_eq_some_iff.1 hri)
         rw [hxs];rfl
       rw [hrow,show Nat.blt off ts.length=true by rw [← hr.1];exact hq.1.2]
       simp only [Bool.and_self,cond_true,bO]
       exact K _ _ _ (.v undef) _ _ _ (fun _ h=>h) (hm.cC b e (hr.set off (x:=.r i) rfl)) ht rfl h
  | any=>rw [hxd] at h;exact h.elim
  | _=>
   rw [hxd] at h hx
   have hnr:AV (ev t x)=false:=by
    first
     | (have hx:ev t x=_:=hx;rw [hx];rfl)
     | (obtain ⟨_,e,_⟩:=hx;rw [e];rfl)
     | (obtain ⟨_,_,_,e,_⟩:=hx;rw [e];rfl)
   rw [show (E.keep&&AV (ev t x))=false by rw [hnr,Bool.and_false]]
   simp only [cond_false] at h ⊢
   refine cM (fun g h=>h.elim (hOb g) (fun h=>by cases h)) (sy:=D.sy) hx hm ht h fun fs' xd' md' td' x' m' t' hs hx' hm' ht' h'=>?_
   cases hb:(md'.own[b]?).join with
   | none=>rw [hb] at h';exact h'.elim
   | some q=>
    obtain ⟨cs,e⟩:=q
    rw [hb] at h'
    simp only at h'
    obtain ⟨ts,hts,hr⟩:=hm'.own b cs e (Option.join_eq_some_iff.1 hb)
    have hc:m'.cells b=some (ts,e):=by unfold M.cells;rw [hts];rfl
    rw [hc]
    simp only
    cases hcs:fC xd' with
    | none=>rw [hcs] at h';exact h'.elim
    | some xs=>
     rw [hcs] at h'
     obtain ⟨us,hu,hur⟩:=kn hx' hcs
     rw [hu]
     cases hag:lk E.agg ty with
     | none=>rw [hag] at h';exact h'.elim
     | some n=>
      rw [hag] at h'
      simp only at h' ⊢
      cases hq:(xs.length==n.getD 1&&Nat.ble (off+xs.length) cs.length&&dH xs) with
      | false=>rw [hq] at h';exact h'.elim
      | true=>
       rw [hq] at h'
       simp only [Bool.and_eq_true] at hq
       rw [← hur.1,← hr.1,hq.1.1,hq.1.2,dZ hur hq.2]
       simp only [Bool.and_self,cond_true,bO]
       exact K _ _ _ (.v undef) _ _ _ hs (hm'.cC b e (hr.fI hur off)) ht' rfl h'
 | q i sz j off=>
  rw [hd] at h ha
  have ha:ev t a=.q i (j*sz+off):=ha
  rw [ha]
  simp only at h ⊢
  cases hb:(md.rows[i]?).join with
  | none=>rw [hb] at h;exact h.elim
  | some r=>
   rw [hb] at h
   obtain ⟨xs0,hxs,hz,hl⟩:=hm.row i r (Option.join_eq_some_iff.1 hb)
   rw [hxs]
   cases hcs:fC (dev td x) with
   | none=>rw [hcs] at h;exact h.elim
   | some xs=>
    rw [hcs] at h
    obtain ⟨us,hu,hur⟩:=kn hx hcs
    rw [hu]
    cases hag:lk E.agg ty with
    | none=>rw [hag] at h;exact h.elim
    | some n=>
     rw [hag] at h
     simp only [Option.join_some] at h ⊢
     cases hp:fM r.s (fI (eR r.s (r.l.getD j (Sh.z r.s))) off xs) with
     | none=>rw [hp] at h;exact h.elim
     | some yr=>
      obtain ⟨y,rest⟩:=yr
      rw [hp] at h
      cases rest with
      | cons _ _=>exact h.elim
      | nil=>
       simp only at h
       cases hq:(xs.length==n.getD 1&&dH xs&&dvals xs&&sz==r.size&&Nat.ble (off+xs.length) r.s.size) with
       | false=>rw [hq] at h;exact h.elim
       | true=>
        rw [hq] at h
        simp only [Bool.and_eq_true] at hq
        obtain ⟨⟨⟨⟨q1,q2⟩,q3⟩,q4⟩,q5⟩:=hq
        obtain ⟨hj,h⟩:=h
        obtain ⟨vs,e1,e2,e3⟩:=fR hur q3
        have q4:sz=r.size:=eq_of_beq q4
        have q5:off+xs.length≤r.s.size:=Nat.le_of_ble_eq_true q5
        rw [e1]
        simp only
        rw [← hur.1,q1,dZ hur q2]
        simp only [Bool.and_self,cond_true]
        obtain ⟨ws,pre,post,f1,f2,f3,⟨z,hz1,hz2⟩,f5⟩:=hl.setAt (fun x vs=>aW.len (s:=r.s)) hj
        have hzz:z=r.l.getD j (Sh.z r.s):=by rw [x3 (z:=Sh.z r.s) hj] at hz1;exact (Option.some.inj hz1).symm
        subst hzz
        have hvl:vs.length=xs.length:=e2.len
        have hoff:j*sz+off=pre.length+off:=by rw [f2,q4,hz]
        have hspl:=(gY (s:=r.s) hz2).fI e2 off
        obtain ⟨v1,v2,g1,g2,g3⟩:=mq (s:=r.s) hp hspl
        have g3:v2=[]:=g3
        rw [g3,List.append_nil] at g1
        have hnew:=f5 y _ g2
        refine ⟨by rw [hoff,f1,List.length_append,List.length_append,f3];omega,?_⟩
        refine K fs _ td (.v undef) _ t _ (fun _ h=>h) ?_ ht rfl h
        have:=hm.setRow i (r:=⟨r.e,r.size,r.s,r.l.set j y⟩) (xs:=pre++v1++post) hz hnew
        rw [hoff,f1,Hi (by rw [f3,hvl];exact q5),g1]
        rw [List.length_set] at this
        exact this
 | _=>rw [hd] at h;exact h.elim
end
end Go.Proofs.YtdbjakibneeeiaaGreatDoor.Sx
namespace Go.Proofs.YtdbjakibneeeiaaGreatDoor.Sx
open Go.RowKit
variable {Ob : Nat → Prop}
section
variable {P : Program} {W : World} {Q : Ending → World → Prop} {ds : List Deferred} {B : World → Prop} {D : DE} {E : Env}
def DY {c:Bool} {p q:Prop} {x y:Tree} (h:Qu c p q) (h1:p→x.aD P W none Q ds) (h2:q→y.aD P W none Q ds):(br c x y).aD P W none Q ds:=by
 cases c
 ·exact h2 h
 ·exact h1 h
def fu {s:Sem Next} {kd:Value→Prop} {k:Value→Tree} (h:jr P s kd) (h1:∀v,kd v→(k v).aD P W none Q ds):(Tree.prim s k).aD P W none Q ds:=by
 obtain ⟨v,hv,h⟩:=h
 exact ⟨v,hv,h1 v h⟩
def Ec {tw:Bool} {op:BinOp} {a b:Int} {kd:TD→Prop} {k:T→Tree} (h:zJ tw op a b kd) (h1:∀v,kd (.v v)→(k (.v v)).aD P W none Q ds):(GN tw op a b k).aD P W none Q ds:=by
 cases op <;> simp only [zJ,GN] at h ⊢ <;> first
  | exact h.elim
  | exact h1 _ h
  | (cases tw
     ·exact ⟨h.1,h1 _ h.2⟩
     ·exact h1 _ h)
def pV {o:Oper} {ty:TypeId} {x i:Operand} (ho:o.op=.indexAddr ty x i) {fs:List Fact} {md:MD} {m0 m:M} {td:List TD} {t:List T} {kd:DK} {k:M→List T→T→Tree}
  (hm:RM Ob fs md m) (ht:aS fs td t) (h:gX E ty (dev td x) (dev td i) md td kd) (K:∀xd y,bJ fs xd y→kd md td xd→(k m t y).aD P W none Q ds):(step0 E o m0 m t k).aD P W none Q ds:=by
 have hx:=ht.ev x
 have hi:=ht.ev i
 simp only [step0,ho]
 unfold gX at h
 cases hr:lk E.row ty with
 | some q=>
  obtain ⟨e,size,bytes⟩:=q
  rw [hr] at h
  simp only at h
  cases hxd:dev td x with
  | d s L=>
   rw [hxd] at h hx
   cases hid:dev td i with
   | v u=>
    rw [hid] at h hi
    have hi:ev t i=.v u:=hi
    rw [hi]
    cases u with
    | int kk j=>
     cases kk with
     | i64=>
      simp only at h
      cases hq:size==s.size with
      | false=>rw [hq] at h;exact h.elim
      | true=>
       rw [hq] at h
       obtain ⟨⟨h1,h2⟩,h⟩:=h
       obtain ⟨y,e1,a,n,c,xs,e2,e3,e4,e5,e6⟩:=hx
       obtain rfl:y=.slice a n c:=by simpa using e2
       rw [e1]
       have hn:0<n:=by omega
       have e4:n=L.length:=e4
       cases a with
       | none=>have:=(e3.2.2 rfl).1;omega
       | some A=>
        refine ⟨⟨h1,by omega,rfl⟩,K (.e s L j.toNat 0) _ ?_ h⟩
        have hq:=eq_of_beq hq
        have hF:eC fs (some A) xs:=by
         rcases e6 with e6 | e6
         ·rw [show pt (some A) n=some A from if_neg (by omega)] at e6;cases e6
         ·rw [show pt (some A) n=some A from if_neg (by omega)] at e6;exact .inr e6
        refine ⟨A,xs,_,rfl,e5,hF,?_,?_,?_⟩
        ·simp only [Option.getD_some];unfold Addr.add;split <;> rfl
        ·simp only [Option.getD_some];unfold Addr.add;split
         ·rename_i h0;rw [hq] at h0;omega
         ·rw [hq];rfl
        ·intro h0;simp only [Option.getD_some];unfold Addr.add;split
         ·exact h0
         ·rfl
     | _=>exact h.elim
    | _=>exact h.elim
   | _=>rw [hid] at h;exact h.elim
  | r q=>
   rw [hxd] at h hx
   have hx:ev t x=.r q:=hx
   rw [hx]
   cases hid:dev td i with
   | v u=>
    rw [hid] at h hi
    have hi:ev t i=.v u:=hi
    rw [hi]
    cases u with
    | int kk j=>
     cases kk with
     | i64=>
      simp only at h ⊢
      cases hb:(md.rows[q]?).join with
      | none=>rw [hb] at h;exact h.elim
      | some r=>
       rw [hb] at h
       simp only at h
       obtain ⟨xs,hxs,_⟩:=hm.row q r (Option.join_eq_some_iff.1 hb)
       rw [hxs]
       simp only [Option.join_some]
       cases hq:r.size==size with
       | false=>rw [hq] at h;exact h.elim
       | true=>
        rw [hq] at h
        obtain ⟨h1,h⟩:=h
        simp only [cond_true]
        exact ⟨h1,K (.q q size j.toNat 0) _ rfl h⟩
     | _=>exact h.elim
    | _=>exact h.elim
   | _=>rw [hid] at h;exact h.elim
  | _=>rw [hxd] at h;exact h.elim
 | none=>
  rw [hr] at h
  simp only at h
  cases hxd:dev td x with
  | p b off=>
   rw [hxd] at h hx
   have hx:ev t x=.p b off:=hx
   rw [hx]
   cases hid:dev td i with
   | v u=>
    rw [hid] at h hi
    have hi:ev t i=.v u:=hi
    rw [hi]
    cases u with
    | int kk j=>
     cases kk with
     | i64=>
      simp only at h ⊢
      cases ha:lk E.arr ty with
      | none=>rw [ha] at h;exact h.elim
      | some q=>
       obtain ⟨n,size⟩:=q
       rw [ha] at h
       exact ⟨h.1,K (.p b (off+j.toNat*size)) _ rfl h.2⟩
     | _=>exact h.elim
    | _=>exact h.elim
   | _=>rw [hid] at h;exact h.elim
  | _=>rw [hxd] at h;exact h.elim
def En {fs:List Fact} {md:MD} {m:M} (hm:RM Ob fs md m) {ty:TypeId} {x:TD} {t:T} (hx:bJ fs x t) {v:Value} (h:CZ E ty x md=some v):yq E ty t m=some v:=by
 cases x with
 | v u=>
  have hx:t=.v u:=hx
  subst hx
  cases u <;> first | exact h | cases h
 | s b n=>have hx:t=.s b n:=hx;subst hx;exact h
 | r i=>
  have hx:t=.r i:=hx
  subst hx
  simp only [CZ] at h
  cases hb:(md.rows[i]?).join with
  | none=>rw [hb] at h;cases h
  | some r=>
   rw [hb] at h
   obtain ⟨xs,hxs,_⟩:=hm.row i r (Option.join_eq_some_iff.1 hb)
   simp only [yq,hxs,Option.join_some]
   exact h
 | d s L=>
  obtain ⟨y,rfl,a,n,c,xs,e2,e3,e4,_⟩:=hx
  obtain rfl:y=.slice a n c:=by simpa using e2
  have e4:n=L.length:=e4
  rw [e4]
  exact h
 | _=>cases h
def qx {e:TypeId} {size bytes i:Nat} {r:kP} {xs0:List Value} {y:TD} {yt:T} {fs:List Fact} {md:MD} {m0 m:M} {td:List TD} {t:List T} {kd:DK} {k:M→List T→T→Tree}
  (hsz:size=r.s.size) (hl0:bK (aW (eC fs) r.s) r.l xs0) (hy:bJ fs y yt) (hm:RM Ob fs md m) (ht:aS fs td t) (h:qI D e size bytes i r y md td kd) (K:KO Ob P W Q ds fs kd k) :
  (yo e size bytes i ⟨e,size,r.l.length,xs0⟩ yt m0 m t k).aD P W none Q ds:=by
 unfold qI at h
 have fin:∀(L:List (Den r.s)) (vs:List Value),bK (aW (eC fs) r.s) L vs→kd (MD.oD { md with rows:=md.rows.set i (some ⟨e,size,r.s,r.l++L⟩) } (lG i .any)) (td.map (lG i .any)) (.r i)→
   (k (M.bP { m with rows:=m.rows.set i (some ⟨e,size,r.l.length+L.length,xs0++vs⟩) } (gi i .any)) (t.map (gi i .any)) (.r i)).aD P W none Q ds:=fun L vs hv hk=>by
  have h1:=hm.setRow i (r:=⟨e,size,r.s,r.l++L⟩) (xs:=xs0++vs) hsz (hl0.app hv)
  rw [show (⟨e,size,r.s,r.l++L⟩:kP).l.length=r.l.length+L.length from List.length_append] at h1
  exact K fs _ _ (.r i) _ _ _ (fun _ h=>h) (h1.oD (mD (fun _ h=>h) i (X:=.any) (Y:=.any) trivial) [] rfl (by simp)) (ht.map (mD (fun _ h=>h) i (X:=.any) (Y:=.any) trivial)) rfl hk
 cases y with
 | s b n=>
  have hy:yt=.s b n:=hy
  subst hy
  simp only at h
  cases hb:(md.own[b]?).join with
  | none=>rw [hb] at h;exact h.elim
  | some q=>
   obtain ⟨cs,ty⟩:=q
   rw [hb] at h
   simp only at h
   cases hq:dvals cs with
   | false=>rw [hq] at h;exact h.elim
   | true=>
    rw [hq] at h
    simp only [cond_true] at h
    cases hp:oh r.s n cs with
    | none=>rw [hp] at h;exact h.elim
    | some L=>
     rw [hp] at h
     obtain ⟨h1,h⟩:=h
     obtain ⟨ts,hts,hr⟩:=hm.own b cs ty (Option.join_eq_some_iff.1 hb)
     obtain ⟨vs,e1,e2,e3⟩:=fR hr hq
     obtain ⟨hn,hl⟩:=p8 hp e2
     subst hn
     have hvl:=bK.len (fun x vs=>aW.len (s:=r.s)) hl
     simp only [yo,M.cells,hts,Option.join_some,e1]
     rw [show (vs.length==L.length*size)=true by rw [hvl,hsz];exact beq_self_eq_true _]
     simp only [cond_true]
     exact ⟨h1,fin L vs hl h⟩
 | d s L0=>
  simp only at h
  cases hc:Sh.jA s r.s L0 with
  | none=>rw [hc] at h;exact h.elim
  | some L=>
   rw [hc] at h
   obtain ⟨h1,h⟩:=h
   obtain ⟨y,rfl,hy⟩:=hy
   obtain ⟨a,n,c,xs,e2,e3,e4,e5,e6⟩:=qu hc hy
   obtain rfl:y=.slice a n c:=by simpa using e2
   have e4:n=L.length:=e4
   subst e4
   have hvl:=bK.len (fun x vs=>aW.len (s:=r.s)) e5
   simp only [yo]
   refine ⟨xs,by rw [hvl,hsz],sn e5,fun β ρ w hM ad had j u hu=>?_,⟨h1.1,h1.2,e3.2.2⟩,fin L xs e5 h⟩
   have hjl:=(List.getElem?_eq_some_iff.1 hu).1
   have hn0:L.length≠0:=fun h0=>by rw [hvl,h0,Nat.zero_mul] at hjl;omega
   have hF:eC m.facts (some ad) xs:=by
    rw [hm.fe]
    rcases e6 with e6 | e6
    ·rw [show pt a L.length=a from if_neg hn0,had] at e6;cases e6
    ·rw [show pt a L.length=a from if_neg hn0,had] at e6;exact .inr e6
   have h9:At w (some ad) xs:=kN hM _ _ hF
   exact h9.cell hu
 | v u=>
  have hy:yt=.v u:=hy
  subst hy
  match u,h with
  | .slice none 0 0,h=>
   obtain ⟨h1,h⟩:=h
   simp only [yo]
   exact ⟨[],by simp,by simp,fun β ρ w hM ad had j u hu=>by simp at hu,⟨h1.1,h1.2,by simp⟩,fin [] [] rfl h⟩
 | _=>exact h.elim
def zC {e:TypeId} {size bytes:Nat} {x y:TD} {xt yt:T} {fs:List Fact} {md:MD} {m0 m:M} {td:List TD} {t:List T} {kd:DK} {k:M→List T→T→Tree}
  (hx:bJ fs x xt) (hy:bJ fs y yt) (hm:RM Ob fs md m) (ht:aS fs td t) (h:zX D e size bytes x y md td kd) (K:KO Ob P W Q ds fs kd k):(Dv e size bytes xt yt m0 m t k).aD P W none Q ds:=by
 unfold zX at h
 cases x with
 | r i=>
  have hx:xt=.r i:=hx
  subst hx
  simp only at h
  cases hb:(md.rows[i]?).join with
  | none=>rw [hb] at h;exact h.elim
  | some r=>
   rw [hb] at h
   simp only at h
   obtain ⟨xs,hxs,hz,hl⟩:=hm.row i r (Option.join_eq_some_iff.1 hb)
   cases hq:(r.e==e&&r.size==size) with
   | false=>rw [hq] at h;exact h.elim
   | true=>
    rw [hq] at h
    have h:qI D e size bytes i r y md td kd:=h
    simp only [Dv,hxs,Option.join_some,hq,cond_true]
    simp only [Bool.and_eq_true,beq_iff_eq] at hq
    obtain ⟨rfl,rfl⟩:=hq
    exact qx hz hl hy hm ht h K
 | v u=>
  have hx:xt=.v u:=hx
  subst hx
  match u,h with
  | .slice none 0 0,h=>
   simp only at h
   cases hs:lk D.sy e with
   | none=>rw [hs] at h;exact h.elim
   | some s=>
    rw [hs] at h
    simp only at h
    cases hq:s.size==size with
    | false=>rw [hq] at h;exact h.elim
    | true=>
     rw [hq] at h
     have hq:=eq_of_beq hq
     have h:qI D e size bytes md.rows.length ⟨e,size,s,[]⟩ y _ td kd:=h
     simp only [Dv]
     rw [← hm.rl]
     exact qx (r:=⟨e,size,s,[]⟩) (xs0:=[]) hq.symm rfl hy (hm.uh (r:=⟨e,size,s,[]⟩) (xs:=[]) hq.symm rfl) ht h K
 | _=>exact h.elim
end
end Go.Proofs.YtdbjakibneeeiaaGreatDoor.Sx
namespace Go.Proofs.YtdbjakibneeeiaaGreatDoor.Sx
open Go.RowKit
variable {Ob : Nat → Prop}
section
variable {P : Program} {W : World} {Q : Ending → World → Prop} {ds : List Deferred} {B : World → Prop} {D : DE} {E : Env}
def kO (o:Oper):Bool:=match o.op with
 | .call c=>match c.callee with
  | .builtin .len=>true
  | .builtin .min=>true
  | .builtin .max=>true
  | _=>false
 | .store _ _ _=>false
 | _=>true
def KJ (o:Oper):Bool:=kO o&&(match o.op with | .makeSlice _ _ _=>false | _=>true)
def Dw {E:Env} {o:Oper} (h:KJ o=true):(kO o && !mJ E o)=true:=by
 unfold KJ at h
 rw [Bool.and_eq_true] at h
 rw [Bool.and_eq_true]
 refine ⟨h.1,?_⟩
 have h2:=h.2
 unfold mJ
 split
 ·rename_i ho;rw [ho] at h2;cases h2
 ·rfl
def cO (E:Env) (D:DE) (o:Oper) (td:List TD):Bool:=(kO o && !mJ E o)||(match o.op with
 | .call c=>match c.callee with
  | .value (.func g)=>pQ E D false g (c.args.toList.map (dev td))
  | _=>false
 | _=>false)
structure DE.nq (D:DE) (E:Env) (P:Program) (B:World→Prop) (E':Env):Prop where
 ok:D.Ok E P B
 zero:E'.zero=E.zero
 agg:E'.agg=E.agg
 str:E'.str=E.str
 keep:E'.keep=true
 eok:E'.Ok P
def oN {fs:List Fact}:∀{cs:List TD} {vs ws:List Value},dh cs=some vs→bz fs cs ws→ws=vs
 | [],vs,ws,h,k=>by cases h;exact k
 | .v x::cs,vs,ws,h,⟨y,ys,e,h1,h2⟩=>by
  simp only [dh,Option.map_eq_some_iff] at h
  obtain ⟨l,h3,rfl⟩:=h
  have h1:y=x:=h1
  rw [e,h1,oN h3 h2]
 | .any::_,_,_,h,_=>by cases h
 | .d _ _::_,_,_,h,_=>by cases h
 | .g _::_,_,_,h,_=>by cases h
 | .u _::_,_,_,h,_=>by cases h
 | .p _ _::_,_,_,h,_=>by cases h
 | .fn _ _::_,_,_,h,_=>by cases h
 | .s _ _::_,_,_,h,_=>by cases h
 | .r _::_,_,_,h,_=>by cases h
 | .q _ _ _ _::_,_,_,h,_=>by cases h
 | .e _ _ _ _::_,_,_,h,_=>by cases h
def xE {fs:List Fact} {x:TD} {t:T} (h:bJ fs x t):bJ fs (Jb x) t:=by
 cases x with
 | g cs=>
  show bJ fs (match dh cs with | some vs=>.v (.agg (List.toArray vs)) | none=>.g cs) t
  cases hv:dh cs with
  | none=>exact h
  | some vs=>
   obtain ⟨y,rfl,ws,rfl,hr⟩:=h
   rw [oN hv hr]
   exact rfl
 | _=>exact h
def zf {R:Option Addr→List Value→Prop} (h0:R none []) {s:Sh}:∀n:Nat,bK (aW R s) (List.replicate n (Sh.z s)) (eG n (eM s))
 | 0=>rfl
 | n+1=>⟨eM s,eG n (eM s),rfl,mF h0,zf h0 n⟩
def sG:∀l:List Value,aH (l.map T.v)=some l
 | []=>rfl
 | x::l=>by simp only [List.map_cons,aH,sG l];rfl
def yf:∀{l:List Value},(∀u∈l,u.oneCell'=true)→dF (l.map T.v)=true
 | [],_=>rfl
 | x::l,h=>by
  simp only [List.map_cons,dF,Bool.and_eq_true]
  exact ⟨h x (.head _),yf fun u hu=>h u (.tail _ hu)⟩
def xO {P:Program} {ty e:TypeId} (hu:P.underlying ty=some (.slice e)) {i:TypeInfo} (hi:P.info? e=some i) (a:Option Addr) (n c j:Nat) (w:World) (h:j≤c):(do pure (Next.value (← Instr.sliceAt ty (.slice a n c) none (some (.int .i64 j)) none)):Sem Next).run P w=.ok (.value (.slice (if c=0 then a else a.map fun x=>x.add (0*i.size)) j c)) w:=by
 have h2:((j:Nat):Int)≤c:=by omega
 simp [Instr.sliceAt,Instr.slice,run_underlying hu,Sem.run_bind,go_sem,h2,sizeOf,typeInfo,hi]
def tL {P:Program} {ty e:TypeId} (hu:P.underlying ty=some (.slice e)) {i:TypeInfo} (hi:P.info? e=some i) (a:Option Addr) (n c j:Nat) (w:World) (h:j≤n):(do pure (Next.value (← Instr.sliceAt ty (.slice a n c) (some (.int .i64 j)) none none)):Sem Next).run P w=.ok (.value (.slice (if c=j then a else a.map fun x=>x.add (j*i.size)) (n - j) (c - j))) w:=by
 have h2:((j:Nat):Int)≤n:=by omega
 simp [Instr.sliceAt,Instr.slice,run_underlying hu,Sem.run_bind,go_sem,h2,sizeOf,typeInfo,hi]
def bK.zK {α:Type} {Q:α→List Value→Prop} {z:Nat} (hz:∀x vs,Q x vs→vs.length=z):∀{L:List α} {vs:List Value} (j:Nat),bK Q L vs→bK Q (L.take j) (vs.take (j*z))∧bK Q (L.drop j) (vs.drop (j*z))
 | [],vs,j,h=>by
  have h:vs=[]:=h
  rw [h];simp;exact rfl
 | x::L,vs,0,h=>by simp only [Nat.zero_mul,List.take_zero,List.drop_zero];exact ⟨rfl,h⟩
 | x::L,vs,j+1,⟨v1,v2,e,h1,h2⟩=>by
  obtain ⟨k1,k2⟩:=bK.zK hz j h2
  have hl:=hz _ _ h1
  rw [e,Nat.succ_mul]
  simp only [List.take_succ_cons,List.drop_succ_cons]
  have e1:(v1++v2).take (j*z+z)=v1++v2.take (j*z):=by
   rw [List.take_append,List.take_of_length_le (by omega),show j*z+z - v1.length=j*z by omega]
  have e2:(v1++v2).drop (j*z+z)=v2.drop (j*z):=by
   rw [List.drop_append,List.drop_eq_nil_of_le (by omega),show j*z+z - v1.length=j*z by omega];rfl
  rw [e1,e2]
  exact ⟨⟨v1,v2.take (j*z),rfl,h1,k1⟩,k2⟩
def uu {P:Program} {t:TypeId} {d:TypeDesc} (hu:P.underlying t=some d) {inf:TypeInfo} (hi:P.info? t=some inf) (vs:List Value) (off:Nat) (w:World) :
  (part t vs.toArray off).run P w=(match d with
   | .struct _=>.ok (.agg ((vs.drop off).take inf.size).toArray) w
   | .array _ _=>.ok (.agg ((vs.drop off).take inf.size).toArray) w
   | _=>match vs[off]? with
    | some v=>.ok v w
    | none=>(part t vs.toArray off).run P w):=by
 cases d with
 | struct fs=>simp [part,isAgg,run_underlying hu,Sem.run_bind,sizeOf,typeInfo,hi,List.extract_eq_take_drop]
 | array n e=>simp [part,isAgg,run_underlying hu,Sem.run_bind,sizeOf,typeInfo,hi,List.extract_eq_take_drop]
 | _=>
  dsimp only
  cases hv:vs[off]? with
  | none=>rfl
  | some v=>simp [part,isAgg,run_underlying hu,Sem.run_bind,hv]
def B7 {P:Program} {ty:TypeId} {i:Nat} {fs:List Fact} {cs:List TD} {vs:List Value} {y:TD} (h:su P ty i cs=some y) (hr:bz fs cs vs):∃v,(∀w,(do pure (Next.value (← Instr.field ty (.agg vs.toArray) i)):Sem Next).run P w=.ok (.value v) w)∧gD fs y v:=by
 unfold su at h
 split at h
 ·rename_i fds hu
  split at h
  ·rename_i f hf
   have sub:∀(inf:TypeInfo),(jB cs f.offset inf.size).length=inf.size→gD fs (.g (jB cs f.offset inf.size)) (.agg ((vs.drop f.offset).take inf.size).toArray):=fun inf _=>⟨_,rfl,(hr.drop f.offset).take inf.size⟩
   split at h
   ·rename_i inf e1 e2
    cases hq:(jB cs f.offset inf.size).length==inf.size with
    | false=>rw [hq] at h;cases h
    | true=>
     rw [hq] at h
     cases h
     refine ⟨_,fun w=>?_,sub inf (eq_of_beq hq)⟩
     have:=uu e1 e2 vs f.offset w
     simp [Instr.field,run_underlying hu,Sem.run_bind,hf,asAgg,this]
   ·rename_i inf e1 e2
    cases hq:(jB cs f.offset inf.size).length==inf.size with
    | false=>rw [hq] at h;cases h
    | true=>
     rw [hq] at h
     cases h
     refine ⟨_,fun w=>?_,sub inf (eq_of_beq hq)⟩
     have:=uu e1 e2 vs f.offset w
     simp [Instr.field,run_underlying hu,Sem.run_bind,hf,asAgg,this]
   ·rename_i d inf n1 n2 e1 e2
    obtain ⟨v,hv,hrv⟩:=oC hr h
    refine ⟨v,fun w=>?_,hrv⟩
    have:=uu e1 e2 vs f.offset w
    have hp:(part f.type vs.toArray f.offset).run P w=.ok v w:=by
     rw [this]
     cases d with
     | struct fs=>exact absurd rfl (n1 fs)
     | array n e=>exact absurd rfl (n2 n e)
     | _=>simp only [hv]
    simp [Instr.field,run_underlying hu,Sem.run_bind,hf,asAgg,hp]
   ·cases h
  ·cases h
 ·cases h
def uY {fs:List Fact} {x:TD} {t:T} {g:FuncId} (h:qQ x=some g) (k:bJ fs x t):∃first caps,t=.v (.func (.func g) first caps)∧first.size=0∧caps.size=0:=by
 unfold qQ at h
 split at h
 ·rename_i g' first caps
  cases hq:(first.size==0&&caps.size==0) with
  | false=>rw [hq] at h;cases h
  | true=>
   rw [hq] at h
   cases h
   simp only [Bool.and_eq_true,beq_iff_eq] at hq
   exact ⟨first,caps,k,hq.1,hq.2⟩
 ·cases h
def gE {E':Env} (hD:D.nq E P B E') (hB:∀w,Below W.heap.size W w→B w) (hOb:∀g,W.heap.size≤g→Ob g) {o:Oper} {st:Bool} {fs fs0:List Fact} {md0 md:MD} {m0 m:M} {td:List TD} {t:List T} {kd:DK} {k:M→List T→T→Tree}
  (h0:RM Ob fs0 md0 m0) (hsub:∀φ∈fs0,φ∈fs) (hst:st=true→fs0=fs) (hm:RM Ob fs md m) (ht:aS fs td t) (h:dB P E' D o st md0 md td kd) (K:∀fs' md' td' xd m' t' x,(∀φ∈fs,φ∈fs')→(cO E' D o td=true→fs'=fs)→RM Ob fs' md' m'→aS fs' td' t'→bJ fs' xd x→kd md' td' xd→(k m' t' x).aD P W none Q ds):(step0 E' o m0 m t k).aD P W none Q ds:=by
 have K1:∀xd x,bJ fs xd x→kd md td xd→(k m t x).aD P W none Q ds:=fun xd x hx hk=>K fs md td xd m t x (fun _ h=>h) (fun _=>rfl) hm ht hx hk
 unfold dB at h
 cases ho:o.op with
 | move x=>rw [ho] at h;simp only [step0,ho];exact K1 _ _ (ht.ev x) h
 | assign x=>rw [ho] at h;simp only [step0,ho];exact K1 _ _ (ht.ev x) h
 | pick c a b=>
  rw [ho] at h
  simp only [step0,ho]
  simp only at h
  have hc:=ht.ev c
  cases hcd:dev td c with
  | v u=>
   rw [hcd] at h hc
   have hc:ev t c=.v u:=hc
   rw [hc]
   cases u with
   | bool b'=>exact DY h (K1 _ _ (ht.ev a)) (K1 _ _ (ht.ev b))
   | _=>exact h.elim
  | _=>rw [hcd] at h;exact h.elim
 | alloc e=>
  rw [ho] at h
  simp only [step0,ho]
  simp only at h
  cases hz:lk E'.zero e with
  | none=>rw [hz] at h;exact h.elim
  | some cs=>
   cases hs:lk D.sy e with
   | none=>rw [hz,hs] at h;exact h.elim
   | some s=>
    rw [hz,hs] at h
    have hcs:=hD.ok.zero e s cs hs (by rw [← hD.zero];exact hz)
    subst hcs
    have h1:=hm.alloc (cs:=oF s) (ts:=(eM s).map T.v) e (oJ _)
    exact K _ _ _ (.p md.own.length 0) _ _ _ (fun _ h=>h) (fun _=>rfl) h1 ht (by rw [hm.ol];exact rfl) h
 | box e x=>
  rw [ho] at h
  simp only [step0,ho]
  simp only at h
  cases hc:fC (dev td x) with
  | none=>rw [hc] at h;exact h.elim
  | some xs=>
   rw [hc] at h
   simp only at h
   obtain ⟨us,hu,hur⟩:=kn (ht.ev x) hc
   rw [hu]
   simp only
   cases hq:dH xs with
   | false=>rw [hq] at h;exact h.elim
   | true=>
    rw [hq] at h
    rw [dZ hur hq]
    exact K _ _ _ (.p md.own.length 0) _ _ _ (fun _ h=>h) (fun _=>rfl) (hm.alloc e hur) ht (by rw [hm.ol];exact rfl) h
 | load ty a=>rw [ho] at h;exact zP hD.eok ho h0 hsub hst hm ht h K1
 | store ty a x=>rw [ho] at h;exact xB hOb hD.keep ho hm ht h (fun fs' md td xd m t x hs=>K fs' md td xd m t x hs (by simp [cO,kO,ho]))
 | fieldAddr s x f=>
  rw [ho] at h
  simp only [step0,ho]
  simp only at h
  have hx:=ht.ev x
  cases hl:lk E'.off (s,f) with
  | none=>rw [hl] at h;exact h.elim
  | some d=>
   rw [hl] at h
   simp only at h ⊢
   cases hxd:dev td x with
   | p b o=>rw [hxd] at h hx;have hx:ev t x=.p b o:=hx;rw [hx];exact K1 (.p b (o+d)) _ rfl h
   | q i sz j o=>rw [hxd] at h hx;have hx:ev t x=.q i (j*sz+o):=hx;rw [hx];exact K1 (.q i sz j (o+d)) _ (congrArg (T.q i) (by omega)) h
   | e s L j o=>
    rw [hxd] at h hx
    obtain ⟨A,xs,ad,e1,e2,e3,e4,e5,e6⟩:=hx
    rw [e1]
    refine K1 (.e s L j (o+d)) _ ⟨A,xs,_,rfl,e2,e3,?_,?_,fun h0=>?_⟩ h
    ·unfold Addr.add;split
     ·exact e4
     ·exact e4
    ·unfold Addr.add;split
     ·rename_i hd0;rw [e5,hd0];omega
     ·show ad.off+d=_;rw [e5];omega
    ·unfold Addr.add;split
     ·exact e6 h0
     ·rfl
   | _=>rw [hxd] at h;exact h.elim
 | indexAddr ty x i=>rw [ho] at h;exact pV ho hm ht h K1
 | index ty x i=>
  rw [ho] at h
  simp only [step0,ho]
  simp only at h
  have hx:=xE (ht.ev x)
  have hi:=ht.ev i
  rcases CB hx with ⟨u,h1,h2⟩ | hn
  ·rcases CB hi with ⟨v,h3,h4⟩ | hn
   ·rw [h1,h3] at h
    rw [h2,h4]
    exact fu h fun v hv=>K1 (.v v) _ rfl hv
   ·rw [h1] at h
    cases hid:dev td i <;> rw [hid] at h <;> first | exact absurd hid (hn _) | exact h.elim
  ·cases hxd:Jb (dev td x) <;> rw [hxd] at h <;> first | exact absurd hxd (hn _) | exact h.elim
 | binOp op ty x y z=>
  rw [ho] at h
  simp only [step0,ho]
  simp only at h
  have hx:=xE (ht.ev x)
  have hy:=xE (ht.ev y)
  rcases CB hx with ⟨u,h1,h2⟩ | hn
  ·rcases CB hy with ⟨v,h3,h4⟩ | hn
   ·rw [h1,h3] at h
    rw [h2,h4]
    split at h
    ·rename_i a b e1 e2
     cases e1
     cases e2
     simp only
     cases hb:yO op with
     | true=>rw [hb] at h;exact Ec h fun v hv=>K1 (.v v) _ rfl hv
     | false=>rw [hb] at h;exact fu h fun v hv=>K1 (.v v) _ rfl hv
    ·rename_i a b hne e1 e2
     cases e1
     cases e2
     split
     ·rename_i a' b' e1 e2
      cases e1
      cases e2
      exact (hne _ _ rfl rfl).elim
     ·rename_i a' b' hne2 e1 e2
      cases e1
      cases e2
      exact fu h fun v hv=>K1 (.v v) _ rfl hv
     ·rename_i hne2 hne3
      exact (hne3 _ _ rfl rfl).elim
    ·exact h.elim
   ·rw [h1] at h
    split at h
    ·rename_i e1 e2;exact absurd e2 (hn _)
    ·rename_i e1 e2;exact absurd e2 (hn _)
    ·exact h.elim
  ·split at h
   ·rename_i e1 e2;exact absurd e1 (hn _)
   ·rename_i e1 e2;exact absurd e1 (hn _)
   ·exact h.elim
 | unOp op ty x=>
  rw [ho] at h
  simp only [step0,ho]
  have hx:=ht.ev x
  cases op with
  | not=>
   simp only at h ⊢
   cases hxd:dev td x with
   | v u=>
    rw [hxd] at h hx
    have hx:ev t x=.v u:=hx
    rw [hx]
    cases u with
    | bool b=>exact K1 (.v (.bool !b)) _ rfl h
    | _=>exact h.elim
   | _=>rw [hxd] at h;exact h.elim
  | neg=>
   simp only at h ⊢
   cases hxd:dev td x with
   | v u=>
    rw [hxd] at h hx
    have hx:ev t x=.v u:=hx
    rw [hx]
    cases u with
    | int kk a=>
     cases kk with
     | i64=>exact ⟨h.1,K1 (.v (.int .i64 (-a))) _ rfl h.2⟩
     | _=>exact h.elim
    | _=>exact h.elim
   | _=>rw [hxd] at h;exact h.elim
  | _=>exact h.elim
 | convert src dst x=>
  rw [ho] at h
  simp only [step0,ho]
  simp only at h
  have hx:=ht.ev x
  have key:∀y:TD,dev td x=y→(∃u,ev t x=.v u)→(match lk D.idc (src,dst),dB.dvalQ y with | some _,true=>kd md td y | _,_=>False)→(match ev t x with
    | .v u=>Tree.prim (do pure (.value (← convert src dst u))) (fun v=>k m t (.v v))
    | _=>.bad "convert").aD P W none Q ds:=fun y hy ⟨u,hu⟩ h=>by
   cases hl:lk D.idc (src,dst) with
   | none=>rw [hl] at h;exact h.elim
   | some z=>
    rw [hl] at h
    cases hq:dB.dvalQ y with
    | false=>rw [hq] at h;exact h.elim
    | true=>
     rw [hq] at h
     rw [hu] at hx ⊢
     refine ⟨u,fun w=>?_,K1 y (.v u) (by rw [← hy];exact hx) h⟩
     have:=hD.ok.idc src dst z hl u w
     simp [Sem.run_bind,this]
  cases hxd:dev td x with
  | v u=>
   rw [hxd] at h hx
   have hx:ev t x=.v u:=hx
   rw [hx]
   exact fu h fun v hv=>K1 (.v v) _ rfl hv
  | any=>rw [hxd] at h;exact h.elim
  | g cs=>rw [hxd] at h;exact key (.g cs) hxd (by have hx2:=hx;rw [hxd] at hx2;obtain ⟨y,e,_⟩:=hx2;exact ⟨y,e⟩) h
  | d s L=>rw [hxd] at h;exact key (.d s L) hxd (by have hx2:=hx;rw [hxd] at hx2;obtain ⟨y,e,_⟩:=hx2;exact ⟨y,e⟩) h
  | _=>rw [hxd] at h;simp only [dB.dvalQ] at h;split at h <;> first | exact h.elim | (rename_i e _;cases e) | (rename_i _ e;cases e)
 | extract x i=>
  rw [ho] at h
  simp only [step0,ho]
  simp only at h
  have hx:=ht.ev x
  cases hxd:dev td x with
  | u cs=>
   rw [hxd] at h hx
   simp only at h
   obtain ⟨y,e1,vs,e2,e3⟩:=hx
   rw [e1,e2]
   simp only
   cases hc:cs[i]? with
   | none=>rw [hc] at h;exact h.elim
   | some c=>
    rw [hc] at h
    obtain ⟨v,hv,hr⟩:=oC e3 hc
    rw [hv]
    exact K1 c _ (ia hr) h
  | v u=>
   rw [hxd] at h hx
   have hx:ev t x=.v u:=hx
   rw [hx]
   cases u with
   | tuple vs=>
    simp only at h ⊢
    cases hc:vs.toList[i]? with
    | none=>rw [hc] at h;exact h.elim
    | some c=>rw [hc] at h;exact K1 (.v c) _ rfl h
   | _=>exact h.elim
  | _=>rw [hxd] at h;exact h.elim
 | build ty parts=>
  rw [ho] at h
  simp only [step0,ho]
  simp only at h
  cases hl:lk E'.str ty with
  | none=>rw [hl] at h;exact h.elim
  | some q=>
   obtain ⟨cs,places⟩:=q
   cases hs:lk D.sy ty with
   | none=>rw [hl,hs] at h;exact h.elim
   | some s=>
    rw [hl,hs] at h
    simp only at h ⊢
    have hcs:=hD.ok.str ty s cs places hs (by rw [← hD.str];exact hl)
    subst hcs
    cases hf:oE places (oF s) (parts.toList.map fun q=>(q.1,dev td q.2)) with
    | none=>rw [hf] at h;exact h.elim
    | some cs'=>
     rw [hf] at h
     simp only at h
     obtain ⟨ts',h1,h2⟩:=ql (ts:=(eM s).map T.v) (oJ _) (s9 ht parts.toList) hf
     rw [h1]
     simp only
     cases hq:dvals cs' with
     | false=>rw [hq] at h;exact h.elim
     | true=>
      rw [hq] at h
      obtain ⟨vs,e1,e2,e3⟩:=fR h2 hq
      rw [e1]
      exact K1 (.g cs') _ ⟨_,rfl,vs,rfl,e2⟩ h
 | buildSlice ty n parts=>
  rw [ho] at h
  simp only [step0,ho]
  simp only at h
  cases hr:lk E'.row ty with
  | none=>rw [hr] at h;exact h.elim
  | some q=>
   obtain ⟨e,size,bytes⟩:=q
   rw [hr] at h
   simp only at h ⊢
   cases hs:lk D.sy e with
   | none=>rw [hs] at h;exact h.elim
   | some s=>
    rw [hs] at h
    simp only at h
    cases hn:n==0 with
    | true=>
     rw [hn] at h
     simp only [cond_true] at h ⊢
     cases hq:(E'.quiet||parts.size != 0) with
     | true=>rw [hq] at h;exact h.elim
     | false=>
      rw [hq] at h
      cases hz:s.size==size with
      | false=>rw [hz] at h;exact h.elim
      | true=>
       rw [hz] at h
       simp only [cond_false]
       exact K _ _ _ (.r md.rows.length) _ _ _ (fun _ h=>h) (fun _=>rfl) (hm.uh (r:=⟨e,size,s,[]⟩) (xs:=[]) (eq_of_beq hz).symm rfl) ht (by rw [hm.rl];exact rfl) h
    | false=>
     rw [hn] at h
     simp only [cond_false] at h ⊢
     cases hz:lk E'.zero e with
     | none=>rw [hz] at h;exact h.elim
     | some z=>
      rw [hz] at h
      have hcs:=hD.ok.zero e s z hs (by rw [← hD.zero];exact hz)
      subst hcs
      simp only at h ⊢
      cases hf:oE (eu n size 0) (eG n (oF s)) (parts.toList.map fun q=>(q.1,dev td q.2)) with
      | none=>rw [hf] at h;exact h.elim
      | some cs'=>
       rw [hf] at h
       simp only at h
       obtain ⟨ts',h1,h2⟩:=ql (ts:=eG n ((eM s).map T.v)) (vJ (oJ _) n) (s9 ht parts.toList) hf
       rw [h1]
       simp only
       cases hq:(dH cs'&&s.size==size&&Nat.ble (n*size) 1000) with
       | false=>rw [hq] at h;exact h.elim
       | true=>
        rw [hq] at h
        simp only [Bool.and_eq_true] at hq
        have hzl:((eM s).map T.v).length=s.size:=by rw [List.length_map];exact aW.len (s:=s) (mF (R:=fun _ _=>True) trivial)
        rw [dZ h2 hq.1.1,hzl,hq.1.2,hq.2]
        simp only [Bool.and_self,cond_true]
        exact K _ _ _ (.s md.own.length n) _ _ _ (fun _ h=>h) (fun _=>rfl) (hm.alloc e h2) ht (by rw [hm.ol];exact rfl) h
 | field ty x i=>
  rw [ho] at h
  simp only [step0,ho]
  simp only at h
  have hx:=ht.ev x
  cases hxd:dev td x with
  | g cs=>
   rw [hxd] at h hx
   obtain ⟨y,e,vs,rfl,hr⟩:=hx
   rw [e]
   simp only at h ⊢
   cases hf:su P ty i cs with
   | none=>rw [hf] at h;exact h.elim
   | some y=>
    rw [hf] at h
    obtain ⟨v,h1,h2⟩:=B7 hf hr
    exact ⟨v,h1,K1 y (.v v) (ia h2) h⟩
  | v u=>
   rw [hxd] at h hx
   have hx:ev t x=.v u:=hx
   rw [hx]
   exact fu h fun v hv=>K1 (.v v) _ rfl hv
  | _=>rw [hxd] at h;exact h.elim
 | makeSlice ty l c=>
  rw [ho] at h
  simp only [step0,ho]
  simp only at h
  cases hr:lk E'.row ty with
  | none=>rw [hr] at h;exact h.elim
  | some q=>
   obtain ⟨e,size,bytes⟩:=q
   rw [hr] at h
   have hl:=ht.ev l
   have hc:=ht.ev c
   split at h
   ·rename_i e' z' b' j c' e1 e2 e3
    cases e1
    rw [e2] at hl
    rw [e3] at hc
    have hl:ev t l=.v (.int .i64 j):=hl
    have hc:ev t c=.v (.int .i64 c'):=hc
    rw [hl,hc]
    simp only
    split at h
    ·rename_i cs s f1 f2
     cases hq:(s.size==size&&(!E'.quiet||E'.made)) with
     | false=>rw [hq] at h;exact h.elim
     | true=>
      rw [hq] at h
      obtain ⟨h1,h⟩:=h
      simp only [Bool.and_eq_true,beq_iff_eq] at hq
      have hcs:=hD.ok.zero e s cs f2 (by rw [← hD.zero];exact f1)
      subst hcs
      have hz:(lk E'.zero e).bind aH=some (eM s):=by rw [f1];exact sG _
      rw [hz]
      have hlie:aW (fun _ _=>True) s (Sh.z s) (eM s):=mF trivial
      have hlen:(eM s).length=size:=by rw [aW.len (s:=s) hlie];exact hq.1
      simp only [hlen,beq_self_eq_true,yf (xw (s:=s) hlie),hq.2,Bool.and_self,cond_true]
      refine ⟨h1,?_⟩
      have:=hm.uh (r:=⟨e,size,s,List.replicate j.toNat (Sh.z s)⟩) (xs:=eG j.toNat (eM s)) hq.1.symm (zf (.inl rfl) _)
      rw [List.length_replicate] at this
      exact K _ _ _ (.r md.rows.length) _ _ _ (fun _ h=>h) (fun _=>rfl) this ht (by rw [hm.rl];exact rfl) h
    ·exact h.elim
   ·exact h.elim
 | slice ty x lo hi mx=>
  rw [ho] at h
  cases mx with
  | some _=>exact h.elim
  | none=>
  simp only [step0,ho]
  simp only at h
  have hx:=ht.ev x
  split at h
  ·rename_i q e1 size b1 s L hrow hd
   rw [hd] at hx
   obtain ⟨y,hy,a,n,c,xs,e2,hs,hn,hlie,hR⟩:=hx
   obtain rfl:y=.slice a n c:=by simpa using e2
   rw [hy]
   have hn:n=L.length:=hn
   obtain ⟨hu,inf,z,hinf,_,hisz,_,_,h0s⟩:=hD.eok.row ty _ _ _ hrow
   have hN:=fun (jn:Nat) (hl:bK (aW (eC fs) s) L xs)=>bK.zK (fun x vs=>aW.len (s:=s)) jn hl
   split at h
   ·rename_i hh
    have hb:=ht.ev hh
    split at h
    ·rename_i j e3
     rw [e3] at hb
     have hb:ev t hh=.v (.int .i64 j):=hb
     simp only [hb]
     obtain ⟨hsz,⟨h1,h2⟩,h⟩:=h
     have hsz:size=s.size:=by
      cases hq:size==s.size with
      | true=>exact eq_of_beq hq
      | false=>rw [hq] at hsz;exact hsz.elim
     obtain ⟨jn,rfl⟩:∃jn:Nat,j=jn:=⟨j.toNat,by omega⟩
     refine ⟨_,fun w=>xO hu hinf a n c jn w (by have:=hs.1;omega),K1 (.d s (L.take jn)) _ ⟨_,rfl,(if c=0 then a else a.map fun x=>x.add (0*inf.size)),jn,c,xs.take (jn*s.size),rfl,?_,?_,(hN jn hlie).1,?_⟩ h⟩
     ·refine ⟨by have:=hs.1;omega,hs.2.1,fun h9=>?_⟩
      split at h9
      ·have:=hs.2.2 h9;have:=hs.1;omega
      ·cases a with
       | none=>have:=hs.2.2 rfl;have:=hs.1;omega
       | some A=>cases h9
     ·show jn=(L.take jn).length
      rw [List.length_take];omega
     ·by_cases hj0:jn=0
      ·exact .inl (if_pos hj0)
      ·rw [show pt _ jn=_ from if_neg hj0,if_neg (by have:=hs.1;omega)]
       have hn0:n≠0:=by omega
       rw [show pt a n=a from if_neg hn0] at hR
       cases a with
       | none=>exact .inl rfl
       | some A=>
        rcases hR with hR | ⟨φ,g1,g2,g3⟩
        ·cases hR
        ·refine .inr ⟨φ,g1,?_,fun o ho=>?_⟩
         ·rw [g2];simp [ay,Addr.add]
         ·have:=g3 o ho
          intro ad had
          simp [Addr.add] at had
          subst had
          obtain ⟨k1,cur,ee,fr,k2,k3⟩:=this A rfl
          refine ⟨k1,cur,ee,fr,k2,fun jj u hu=>k3 jj u ?_⟩
          rw [List.getElem?_take] at hu
          split at hu
          ·exact hu
          ·cases hu
    ·exact h.elim
   ·rename_i ll
    have hb:=ht.ev ll
    split at h
    ·rename_i j e3
     rw [e3] at hb
     have hb:ev t ll=.v (.int .i64 j):=hb
     simp only [hb]
     obtain ⟨hsz,⟨h1,h2⟩,h⟩:=h
     have hsz:size=s.size:=by
      cases hq:size==s.size with
      | true=>exact eq_of_beq hq
      | false=>rw [hq] at hsz;exact hsz.elim
     obtain ⟨jn,rfl⟩:∃jn:Nat,j=jn:=⟨j.toNat,by omega⟩
     refine ⟨_,fun w=>tL hu hinf a n c jn w (by omega),K1 (.d s (L.drop jn)) _ ⟨_,rfl,(if c=jn then a else a.map fun x=>x.add (jn*inf.size)),n - jn,c - jn,xs.drop (jn*s.size),rfl,?_,?_,(hN jn hlie).2,?_⟩ h⟩
     ·refine ⟨by have:=hs.1;omega,by have:=hs.2.1;omega,fun h9=>?_⟩
      split at h9
      ·have:=hs.2.2 h9;have:=hs.1;omega
      ·cases a with
       | none=>have:=hs.2.2 rfl;have:=hs.1;omega
       | some A=>cases h9
     ·show n - jn=(L.drop jn).length
      rw [List.length_drop];omega
     ·by_cases hj0:n - jn=0
      ·exact .inl (if_pos hj0)
      ·rw [show pt _ (n - jn)=_ from if_neg hj0,if_neg (by have:=hs.1;omega)]
       have hn0:n≠0:=by omega
       rw [show pt a n=a from if_neg hn0] at hR
       cases a with
       | none=>exact .inl rfl
       | some A=>
        rcases hR with hR | ⟨φ,g1,g2,g3⟩
        ·cases hR
        ·refine .inr ⟨φ,g1,?_,fun o ho=>?_⟩
         ·rw [g2];simp only [ay,Option.map_some];unfold Addr.add;split <;> rfl
         ·have:=g3 o ho
          intro ad had
          have had:=(Option.some.inj had).symm
          subst had
          obtain ⟨k1,cur,ee,fr,k2,k3⟩:=this A rfl
          refine ⟨?_,cur,ee,fr,k2,fun jj u hu=>?_⟩
          ·unfold Addr.add;split
           ·exact k1
           ·rfl
          ·rw [List.getElem?_drop] at hu
           have:=k3 _ u hu
           rw [← this]
           congr 1
           unfold Addr.add
           split
           ·rename_i h9;rw [hisz,hsz] at h9;show A.off+jj=A.off+(jn*s.size+jj);rw [h9,Nat.zero_add]
           ·simp only;rw [hisz,hsz];show A.off+jn*s.size+jj=A.off+(jn*s.size+jj);omega
    ·exact h.elim
   ·exact h.elim
  ·rename_i u hd
   rw [hd] at hx
   have hx:ev t x=.v u:=hx
   rw [hx]
   split at h
   ·rename_i hh
    have hb:=ht.ev hh
    split at h
    ·rename_i v e3
     rw [e3] at hb
     have hb:ev t hh=.v v:=hb
     simp only [hb]
     exact fu h fun v hv=>K1 (.v v) _ rfl hv
    ·exact h.elim
   ·rename_i ll
    have hb:=ht.ev ll
    split at h
    ·rename_i v e3
     rw [e3] at hb
     have hb:ev t ll=.v v:=hb
     simp only [hb]
     exact fu h fun v hv=>K1 (.v v) _ rfl hv
    ·exact h.elim
   ·exact h.elim
  ·exact h.elim
 | call c=>
  rw [ho] at h
  obtain ⟨callee,args,tys⟩:=c
  simp only at h
  have callV:∀f:Operand,(∀g,f≠.func g)→o.op=.call { callee:=.value f,args:=args,argTypes:=tys }→(match qQ (dev td f) with
    | some g=>jO E' D true g (args.toList.map (dev td)) md td kd
    | none=>False)→((match ev t f with
    | .v (.func (.func g) first caps)=>bif first.size==0 then jq E' true g (args.toList.map (ev t)) (caps.toList.map .v) m t k else bif caps.size==0 then bW (args.toList.map (ev t)) m t (fun xs m t=>.call g (first.toList.map .v++xs) m (fun v fs=>k (m.eA fs) t (.v v))) else .bad "call: bound"
    | .fn g caps=>jq E' true g (args.toList.map (ev t)) (caps.map fun c=>.p c.1 c.2) m t k
    | _=>.bad "call" : Tree).aD P W none Q ds→(step0 E' o m0 m t k).aD P W none Q ds)→(step0 E' o m0 m t k).aD P W none Q ds:=fun f hne xN hh fin=>by
   cases hfn:qQ (dev td f) with
   | none=>rw [hfn] at hh;exact hh.elim
   | some g=>
    rw [hfn] at hh
    obtain ⟨first,caps,e1,e2,e3⟩:=uY hfn (ht.ev f)
    refine fin ?_
    rw [e1]
    simp only [e2,beq_self_eq_true,cond_true]
    have e4:caps.toList.map T.v=[]:=by
     have:caps = #[]:=Array.eq_empty_of_size_eq_zero e3
     rw [this];rfl
    rw [e4]
    refine oQ hD.ok hB hOb (jE ht args.toList) hm ht hh fun fs' md td' xd m t x hs=>K fs' md td' xd m t x hs fun hs2=>?_
    cases f with
    | func g=>exact absurd rfl (hne g)
    | _=>simp [cO,kO,xN] at hs2
  cases callee with
  | value f=>
   cases f with
   | func g=>
    simp only [step0,ho]
    cases hcf:pQ E' D false g (args.toList.map (dev td)) with
    | true=>exact uS hD.ok hB hcf (jE ht args.toList) hm h K1
    | false=>exact oQ hD.ok hB hOb (jE ht args.toList) hm ht h (fun fs' md td xd m t x hs=>K fs' md td xd m t x hs (by simp [cO,kO,ho,hcf]))
   | tmp j=>exact callV (.tmp j) (fun g e=>by cases e) ho h (by simp only [step0,ho];intro h;exact h)
   | const x=>exact callV (.const x) (fun g e=>by cases e) ho h (by simp only [step0,ho];intro h;exact h)
   | global q=>exact callV (.global q) (fun g e=>by cases e) ho h (by simp only [step0,ho];intro h;exact h)
  | invoke _ _=>exact h.elim
  | builtin b=>
   cases b with
   | len=>
    simp only [step0,ho]
    simp only at h
    cases ha:args.toList with
    | nil=>rw [ha] at h;exact h.elim
    | cons x l=>
     cases l with
     | cons _ _=>rw [ha] at h;exact h.elim
     | nil=>
      cases hty:tys.toList with
      | nil=>rw [ha,hty] at h;exact h.elim
      | cons ty l=>
       cases l with
       | cons _ _=>rw [ha,hty] at h;exact h.elim
       | nil=>
        rw [ha,hty] at h
        simp only at h ⊢
        cases hv:CZ E' ty (dev td x) md with
        | none=>rw [hv] at h;exact h.elim
        | some v=>
         rw [hv] at h
         rw [En hm (ht.ev x) hv]
         exact K1 (.v v) _ rfl h
   | append=>
    simp only [step0,ho]
    simp only at h
    cases ha:args.toList with
    | nil=>rw [ha] at h;exact h.elim
    | cons x l=>
     cases l with
     | nil=>rw [ha] at h;exact h.elim
     | cons y l=>
      cases l with
      | cons _ _=>rw [ha] at h;exact h.elim
      | nil=>
       cases hty:tys.toList with
       | nil=>rw [ha,hty] at h;exact h.elim
       | cons ty l=>
        cases l with
        | nil=>rw [ha,hty] at h;exact h.elim
        | cons ty2 l=>
         cases l with
         | cons _ _=>rw [ha,hty] at h;exact h.elim
         | nil=>
          rw [ha,hty] at h
          simp only at h ⊢
          cases hr:lk E'.row ty with
          | none=>rw [hr] at h;exact h.elim
          | some q=>
           obtain ⟨e,size,bytes⟩:=q
           rw [hr] at h
           simp only at h ⊢
           cases hq:(ty==ty2 && !E'.quiet) with
           | false=>rw [hq] at h;exact h.elim
           | true=>
            rw [hq] at h
            simp only [Bool.and_eq_true,Bool.not_eq_true'] at hq
            rw [hq.1,hq.2]
            simp only [cond_true,cond_false]
            exact zC (ht.ev x) (ht.ev y) hm ht h (fun fs' md td xd m t x hs=>K fs' md td xd m t x hs (by simp [cO,kO,ho]))
   | min=>
    simp only [step0,ho,um]
    simp only at h
    cases hv:dh (args.toList.map (dev td)) with
    | none=>rw [hv] at h;exact h.elim
    | some vs=>
     rw [hv] at h
     rw [lD (jE ht args.toList) hv]
     exact fu h fun v hv=>K1 (.v v) _ rfl hv
   | max=>
    simp only [step0,ho]
    simp only at h
    cases hv:dh (args.toList.map (dev td)) with
    | none=>rw [hv] at h;exact h.elim
    | some vs=>
     rw [hv] at h
     rw [lD (jE ht args.toList) hv]
     exact fu h fun v hv=>K1 (.v v) _ rfl hv
   | _=>exact h.elim
 | _=>rw [ho] at h;exact h.elim
end
end Go.Proofs.YtdbjakibneeeiaaGreatDoor.Sx
namespace Go.Proofs.YtdbjakibneeeiaaGreatDoor.Sx
open Go.RowKit
variable {Ob : Nat → Prop}
def B3 (x:TD):Bool:=match x with | .any=>true | _=>false
def Jj (x:TD):Bool:=match x with | .r _=>true | .s _ _=>true | _=>false
def Mo (f:TD→Bool) (l:List TD):Option (Option (List TD)):=bif l.any B3 then none else bif l.any f then some (some l) else some none
def qz (E:Env) (o:Oper) (md:MD) (td:List TD):Option (Option (List TD)):=
 match o.op with
 | .build _ parts=>Mo Jj (parts.toList.map fun q=>dev td q.2)
 | .buildSlice _ _ parts=>Mo Hr (parts.toList.map fun q=>dev td q.2)
 | .load ty a=>match dev td a with
  | .p b off=>match (md.own[b]?).join,lk E.agg ty with
   | some (cs,_),some (some n)=>Mo Hr (jB cs off n)
   | some _,_=>some none
   | none,_=>none
  | .any=>none
  | _=>some none
 | .store _ a x=>match dev td a with
  | .q _ _ _ _=>match dev td x with
   | .r i=>some (some [.r i])
   | .any=>none
   | _=>some none
  | .p _ _=>some none
  | _=>none
 | .indexAddr _ x _=>match dev td x with
  | .s b n=>some (some [.s b n])
  | .any=>none
  | _=>some none
 | _=>some none
def yw (o:Oper):Bool:=match o.op with
 | .call c=>match c.callee with
  | .value _=>true
  | .builtin .len=>true
  | .builtin .append=>true
  | .builtin .min=>true
  | .builtin .max=>true
  | _=>false
 | .store _ _ _=>true
 | .move _=>true
 | .assign _=>true
 | .pick _ _ _=>true
 | .alloc _=>true
 | .box _ _=>true
 | .load _ _=>true
 | .fieldAddr _ _ _=>true
 | .indexAddr _ _ _=>true
 | .index _ _ _=>true
 | .binOp _ _ _ _ _=>true
 | .unOp _ _ _=>true
 | .convert _ _ _=>true
 | .extract _ _=>true
 | .build _ _=>true
 | .buildSlice _ _ _=>true
 | .makeSlice _ _ _=>true
 | .field _ _ _=>true
 | .slice _ _ _ _ _=>true
 | _=>false
def ua (o:Oper) (td:List TD):Bool:=match o.op with
 | .call c=>match c.callee with
  | .value (.func _)=>true
  | .value f=>(qQ (dev td f)).isSome
  | _=>true
 | _=>true
def zW (P:Program) (E:Env) (D:DE) (o:Oper) (md:MD) (td:List TD) (k:DK):Prop:=
 match yw o&&ua o td,qz E o md td with
 | true,some none=>dB P E D o true md md td k
 | true,some (some l)=>eY D.sy l md td (fun _ md td=>dB P E D o true md md td k)
 | _,_=>False
def wh (E:Env) (o:Oper) (td:List TD):Bool:=match o.op with
 | .buildSlice _ _ parts=>E.soon||(match Mo Hr (parts.toList.map fun q=>dev td q.2) with
  | some none=>false
  | _=>true)
 | _=>false
def sq (P:Program) (E:Env) (D:DE) (o:Oper) (st:Bool) (md0 md:MD) (td:List TD) (k:DK):Prop:=bif wh E o td then False else bif mJ E o then dB P E D o false md0 md td (fun md td x=>cu D.sy x md td (fun x md td=>k md td x)) else dB P E D o st md0 md td k
def a0X (X:Option (List Nat)) (n0:Nat) (o:Oper) (td:List TD):Bool:=
 match X with
 | none=>true
 | some X=>match o.op with
  | .store _ a _=>match dev td a with
   | .p b _=>X.contains b||Nat.ble n0 b
   | _=>false
  | _=>true
def bD {α:Type} (l:List TD) (k:List TD→α):α:=
 match l with
 | []=>k []
 | .any::l=>bD l (fun r=>k (.any::r))
 | .v x::l=>bD l (fun r=>k (.v x::r))
 | .d s L::l=>bD l (fun r=>k (.d s L::r))
 | .g cs::l=>bD l (fun r=>k (.g cs::r))
 | .u cs::l=>bD l (fun r=>k (.u cs::r))
 | .p b o::l=>eE b (fun b=>eE o (fun o=>bD l (fun r=>k (.p b o::r))))
 | .fn f c::l=>bD l (fun r=>k (.fn f c::r))
 | .s b n::l=>eE b (fun b=>bD l (fun r=>k (.s b n::r)))
 | .r i::l=>eE i (fun i=>bD l (fun r=>k (.r i::r)))
 | .q i z j o::l=>eE i (fun i=>eE o (fun o=>bD l (fun r=>k (.q i z j o::r))))
 | .e s L j o::l=>eE o (fun o=>bD l (fun r=>k (.e s L j o::r)))
def dI {α:Type}:∀(l:List TD) (k:List TD→α),bD l k=k l
 | [],k=>rfl
 | x::l,k=>by cases x <;> simp only [bD,dI l,oW]
def mj {α:Type} (l:List (Option (List TD×TypeId))) (k:List (Option (List TD×TypeId))→α):α:=
 match l with
 | []=>k []
 | none::l=>mj l (fun r=>k (none::r))
 | some (cs,ty)::l=>bD cs (fun cs=>mj l (fun r=>k (some (cs,ty)::r)))
def nC {α:Type}:∀(l:List (Option (List TD×TypeId))) (k:List (Option (List TD×TypeId))→α),mj l k=k l
 | [],k=>rfl
 | none::l,k=>by simp only [mj,nC l]
 | some (cs,ty)::l,k=>by simp only [mj,nC l,dI]
def m8 {α:Type} (l:List (Option kP)) (k:List (Option kP)→α):α:=
 match l with
 | []=>k []
 | none::l=>m8 l (fun r=>k (none::r))
 | some ⟨e,z,s,L⟩::l=>m8 l (fun r=>k (some ⟨e,z,s,L⟩::r))
def nI {α:Type}:∀(l:List (Option kP)) (k:List (Option kP)→α),m8 l k=k l
 | [],k=>rfl
 | none::l,k=>by simp only [m8,nI l]
 | some ⟨e,z,s,L⟩::l,k=>by simp only [m8,nI l]
def fV {α:Type} (m:MD) (k:MD→α):α:=match m with
 | ⟨own,rows⟩=>mj own (fun own=>m8 rows (fun rows=>k ⟨own,rows⟩))
def ug {α:Type} (m:MD) (k:MD→α):fV m k=k m:=by
 obtain ⟨own,rows⟩:=m
 simp only [fV,nC,nI]
def Ni (P:Program) (E:Env) (D:DE) (X:Option (List Nat)) (o:Oper) (st:Bool) (md0 md:MD) (td:List TD) (k:DK):Prop:=match X with
 | none=>zW P E D o md td k
 | some _=>sq P E D o st md0 md td k
def kI (P:Program) (E:Env) (D:DE) (X:Option (List Nat)) (all:List Oper):List Oper→Bool→MD→MD→List TD→DM→Prop
 | [],st,md0,md,td,k=>k md td
 | o::rest,st,md0,md,td,k=>
  match o.guard with
  | none=>bif a0X X md0.own.length o td then Ni P E D X o st md0 md td (fun md' td' x=>fV md' (fun md'=>bD (pz td' o.dst x) (fun td2=>kI P E D X all rest (st&&cO E D o td) md0 md' td2 k))) else False
  | some (i,b)=>match (nth all i).bind (·.dst) with
   | none=>False
   | some j=>match sk td j with
    | .v (.bool c)=>Qu (c==b)
      (bif a0X X md0.own.length o td then Ni P E D X o st md0 md (td.set j (.v (.bool b))) (fun md' td' x=>fV md' (fun md'=>bD (pz td' o.dst x) (fun td2=>kI P E D X all rest (st&&cO E D o (td.set j (.v (.bool b)))) md0 md' td2 k))) else False)
      (bD (pz (td.set j (.v (.bool !b))) o.dst (.v undef)) (fun td=>kI P E D X all rest st md0 md td k))
    | .v (.tuple _)=>bD (pz td o.dst (.v undef)) (fun td=>kI P E D X all rest st md0 md td k)
    | _=>False
section
variable {P : Program} {W : World} {Q : Ending → World → Prop} {ds : List Deferred} {B : World → Prop} {D : DE} {E : Env}
def Cq {fs:List Fact} {f:TD→Bool} {g:T→Bool} (hfg:∀x y,bJ fs x y→B3 x=false→f x=g y):∀{l:List TD} {r:List T},aS fs l r→l.any B3=false→l.any f=r.any g
 | [],r,h,_=>by
  have:r=[]:=List.eq_nil_of_length_eq_zero (by simpa using h.1.symm)
  subst this;rfl
 | x::l,r,h,hA=>by
  obtain ⟨y,us,rfl,h1,h2⟩:=h.tail
  simp only [List.any_cons,Bool.or_eq_false_iff] at hA
  rw [List.any_cons,List.any_cons,hfg x y h1 hA.1,Cq hfg h2 hA.2]
def oM {fs:List Fact} (x:TD) (y:T) (h:bJ fs x y) (ha:B3 x=false):Hr x=AV y:=by
 cases x with
 | any=>cases ha
 | r i=>have h:y=_:=h;subst h;rfl
 | p b o=>have h:y=_:=h;subst h;rfl
 | fn f c=>have h:y=_:=h;subst h;rfl
 | s b n=>have h:y=_:=h;subst h;rfl
 | q i z j o=>have h:y=_:=h;subst h;rfl
 | v u=>have h:y=_:=h;subst h;rfl
 | e s L j o=>obtain ⟨_,_,_,e,_⟩:=h;subst e;rfl
 | d s L=>obtain ⟨_,e,_⟩:=h;subst e;rfl
 | g cs=>obtain ⟨_,e,_⟩:=h;subst e;rfl
 | u cs=>obtain ⟨_,e,_⟩:=h;subst e;rfl
def De {fs:List Fact} (x:TD) (y:T) (h:bJ fs x y) (ha:B3 x=false):Jj x=LS y:=by
 cases x with
 | any=>cases ha
 | r i=>have h:y=_:=h;subst h;rfl
 | p b o=>have h:y=_:=h;subst h;rfl
 | fn f c=>have h:y=_:=h;subst h;rfl
 | s b n=>have h:y=_:=h;subst h;rfl
 | q i z j o=>have h:y=_:=h;subst h;rfl
 | v u=>have h:y=_:=h;subst h;rfl
 | e s L j o=>obtain ⟨_,_,_,e,_⟩:=h;subst e;rfl
 | d s L=>obtain ⟨_,e,_⟩:=h;subst e;rfl
 | g cs=>obtain ⟨_,e,_⟩:=h;subst e;rfl
 | u cs=>obtain ⟨_,e,_⟩:=h;subst e;rfl
def rO {fs:List Fact} {f:TD→Bool} {g:T→Bool} (hfg:∀x y,bJ fs x y→B3 x=false→f x=g y) {l:List TD} {r:List T} (h:aS fs l r) {z:Option (List TD)} (hz:Mo f l=some z):match z with
  | none=>(bif r.any g then some r else none)=none
  | some l'=>(bif r.any g then some r else none)=some r∧aS fs l' r:=by
 unfold Mo at hz
 cases ha:l.any B3 with
 | true=>rw [ha] at hz;cases hz
 | false=>
  rw [ha] at hz
  have e:=Cq hfg h ha
  cases hf:l.any f with
  | true=>
   rw [hf] at hz
   cases hz
   rw [← e,hf]
   exact ⟨rfl,h⟩
  | false=>
   rw [hf] at hz
   cases hz
   rw [← e,hf]
   rfl
def tJ {fs:List Fact} {td:List TD} {t:List T} (ht:aS fs td t) (l:List (Nat×Operand)):aS fs (l.map fun q=>dev td q.2) (l.map fun q=>ev t q.2):=by
 induction l with
 | nil=>exact aS.nil
 | cons x l ih=>exact aS.cons (ht.ev x.2) ih
def Ds {fs:List Fact} {md:MD} {m:M} {td:List TD} {t:List T} {o:Oper} (hm:RM Ob fs md m) (ht:aS fs td t) {z:Option (List TD)} (hz:qz E o md td=some z):match z with
  | none=>jT E o m t=none
  | some l=>∃r,jT E o m t=some r∧aS fs l r:=by
 unfold qz at hz
 unfold jT
 cases ho:o.op with
 | build ty parts=>
  rw [ho] at hz
  have:=rO De (tJ ht parts.toList) hz
  cases z with
  | none=>exact this
  | some l=>exact ⟨_,this⟩
 | buildSlice ty n parts=>
  rw [ho] at hz
  have:=rO oM (tJ ht parts.toList) hz
  cases z with
  | none=>exact this
  | some l=>exact ⟨_,this⟩
 | load ty a=>
  rw [ho] at hz
  simp only at hz ⊢
  have ha:=ht.ev a
  cases had:dev td a with
  | p b off=>
   rw [had] at hz ha
   have ha:ev t a=.p b off:=ha
   rw [ha]
   simp only at hz ⊢
   cases hb:(md.own[b]?).join with
   | none=>rw [hb] at hz;cases hag:lk E.agg ty <;> rw [hag] at hz <;> cases hz
   | some q=>
    obtain ⟨cs,e⟩:=q
    obtain ⟨ts,hts,hr⟩:=hm.own b cs e (Option.join_eq_some_iff.1 hb)
    have hc:m.cells b=some (ts,e):=by unfold M.cells;rw [hts];rfl
    rw [hb] at hz
    rw [hc]
    cases hag:lk E.agg ty with
    | none=>rw [hag] at hz;cases hz;rfl
    | some n=>
     rw [hag] at hz
     cases n with
     | none=>cases hz;rfl
     | some n=>
      have:=rO oM ((hr.drop off).take n) hz
      cases z with
      | none=>exact this
      | some l=>exact ⟨_,this⟩
  | any=>rw [had] at hz;cases hz
  | r i=>rw [had] at hz ha;cases hz;have ha:ev t a=_:=ha;rw [ha]
  | fn f c=>rw [had] at hz ha;cases hz;have ha:ev t a=_:=ha;rw [ha]
  | s b n=>rw [had] at hz ha;cases hz;have ha:ev t a=_:=ha;rw [ha]
  | q i sz j o=>rw [had] at hz ha;cases hz;have ha:ev t a=_:=ha;rw [ha]
  | v u=>rw [had] at hz ha;cases hz;have ha:ev t a=_:=ha;rw [ha]
  | e s L j o=>rw [had] at hz ha;cases hz;obtain ⟨_,_,_,e,_⟩:=ha;rw [e]
  | d s L=>rw [had] at hz ha;cases hz;obtain ⟨_,e,_⟩:=ha;rw [e]
  | g cs=>rw [had] at hz ha;cases hz;obtain ⟨_,e,_⟩:=ha;rw [e]
  | u cs=>rw [had] at hz ha;cases hz;obtain ⟨_,e,_⟩:=ha;rw [e]
 | store ty a x=>
  rw [ho] at hz
  simp only at hz ⊢
  have ha:=ht.ev a
  have hx:=ht.ev x
  cases had:dev td a with
  | q i sz j o=>
   rw [had] at hz ha
   have ha:ev t a=_:=ha
   rw [ha]
   simp only at hz ⊢
   cases hxd:dev td x with
   | any=>rw [hxd] at hz;cases hz
   | r q=>rw [hxd] at hz hx;cases hz;have hx:ev t x=_:=hx;rw [hx];exact ⟨_,rfl,aS.cons (c:=.r q) rfl aS.nil⟩
   | _=>rw [hxd] at hz hx;cases hz;rw [← oM _ _ hx rfl];rfl
  | p b o=>rw [had] at hz ha;cases hz;have ha:ev t a=_:=ha;rw [ha]
  | _=>rw [had] at hz;cases hz
 | indexAddr ty x i=>
  rw [ho] at hz
  simp only at hz ⊢
  have hx:=ht.ev x
  cases hxd:dev td x with
  | s b n=>rw [hxd] at hz hx;cases hz;have hx:ev t x=_:=hx;rw [hx];exact ⟨_,rfl,aS.cons (c:=.s b n) rfl aS.nil⟩
  | any=>rw [hxd] at hz;cases hz
  | p b o=>rw [hxd] at hz hx;cases hz;have hx:ev t x=_:=hx;rw [hx]
  | r i=>rw [hxd] at hz hx;cases hz;have hx:ev t x=_:=hx;rw [hx]
  | fn f c=>rw [hxd] at hz hx;cases hz;have hx:ev t x=_:=hx;rw [hx]
  | q i sz j o=>rw [hxd] at hz hx;cases hz;have hx:ev t x=_:=hx;rw [hx]
  | v u=>rw [hxd] at hz hx;cases hz;have hx:ev t x=_:=hx;rw [hx]
  | e s L j o=>rw [hxd] at hz hx;cases hz;obtain ⟨_,_,_,e,_⟩:=hx;rw [e]
  | d s L=>rw [hxd] at hz hx;cases hz;obtain ⟨_,e,_⟩:=hx;rw [e]
  | g cs=>rw [hxd] at hz hx;cases hz;obtain ⟨_,e,_⟩:=hx;rw [e]
  | u cs=>rw [hxd] at hz hx;cases hz;obtain ⟨_,e,_⟩:=hx;rw [e]
 | _=>rw [ho] at hz;cases hz;rfl
abbrev KS (Ob:Nat→Prop) (P:Program) (W:World) (Q:Ending→World→Prop) (ds:List Deferred) (E:Env) (D:DE) (o:Oper) (td0:List TD) (fs:List Fact) (kd:DK) (k:M→List T→T→Tree):Prop:=∀fs' md td xd m t x,(∀φ∈fs,φ∈fs')→(cO E D o td0=true→fs'=fs)→RM Ob fs' md m→aS fs' td t→bJ fs' xd x→kd md td xd→(k m t x).aD P W none Q ds
def Gk {o:Oper} {t:List T} {td:List TD} {fs:List Fact} (ht:aS fs td t) (h0:E.opens=[]) (hs:yw o=true) (hv:ua o td=true) (hst:∀ty a x,o.op=.store ty a x→(∃b off,dev td a=.p b off)∨∃i z j off,dev td a=.q i z j off):opens E t o=false:=by
 unfold opens
 unfold yw at hs
 cases ho:o.op with
 | call c=>
  rw [ho] at hs
  obtain ⟨callee,args,tys⟩:=c
  cases callee with
  | value f=>
   have go:∀f:Operand,(qQ (dev td f)).isSome=true→(match ev t f with
     | .v (.func (.func _) first _)=>!(first.size==0)
     | _=>false)=false:=fun f h=>by
    obtain ⟨g,hg⟩:=Option.isSome_iff_exists.1 h
    obtain ⟨first,caps,e1,e2,e3⟩:=uY hg (ht.ev f)
    rw [e1]
    simp [e2]
   unfold ua at hv
   rw [ho] at hv
   cases f with
   | func g=>simp only;rw [h0];rfl
   | tmp j=>exact go (.tmp j) hv
   | const x=>exact go (.const x) hv
   | global q=>exact go (.global q) hv
  | invoke _ _=>cases hs
  | builtin b=>cases b <;> first | rfl | (simp only;rw [h0];rfl) | cases hs
 | store ty a x=>
  have ha:=ht.ev a
  rcases hst ty a x ho with ⟨b,off,e⟩ | ⟨i,z,j,off,e⟩
  ·rw [e] at ha;have ha:ev t a=_:=ha;simp only [ha]
  ·rw [e] at ha;have ha:ev t a=_:=ha;simp only [ha]
 | makeSlice _ _ _=>simp only;rw [h0];rfl
 | _=>first | rfl | (rw [ho] at hs;cases hs)
def yp {E':Env} (hD:D.nq E P B E') (hq:E'.quiet=false) (hop:E'.opens=[]) (hB:∀w,Below W.heap.size W w→B w) (hOb:∀g,W.heap.size≤g→Ob g) {o:Oper} {fs:List Fact} {md:MD} {m:M} {td:List TD} {t:List T} {kd:DK} {k:M→List T→T→Tree}
  (hm:RM Ob fs md m) (ht:aS fs td t) (h:zW P E' D o md td kd) (K:KO Ob P W Q ds fs kd k):(step E' o m m t k).aD P W none Q ds:=by
 unfold zW at h
 cases hsv:yw o&&ua o td with
 | false=>rw [hsv] at h;exact h.elim
 | true=>
  rw [hsv] at h
  obtain ⟨hs,hv⟩:=Bool.and_eq_true_iff.1 hsv
  cases hh:qz E' o md td with
  | none=>rw [hh] at h;exact h.elim
  | some z=>
   rw [hh] at h
   have hst:∀ty a x,o.op=.store ty a x→(∃b off,dev td a=.p b off)∨∃i z j off,dev td a=.q i z j off:=fun ty a x ho=>by
    unfold qz at hh
    rw [ho] at hh
    simp only at hh
    cases had:dev td a with
    | p b off=>exact .inl ⟨b,off,rfl⟩
    | q i z j off=>exact .inr ⟨i,z,j,off,rfl⟩
    | _=>rw [had] at hh;cases hh
   have hopn:=Gk (E:=E') ht hop hs hv hst
   unfold step
   rw [hopn,hq,hD.keep,Bool.and_false]
   simp only [cond_true]
   have hr:=Ds (E:=E') hm ht hh
   cases z with
   | none=>
    have hr:jT E' o m t=none:=hr
    rw [hr]
    exact gE hD hB hOb hm (fun _ h=>h) (fun _=>rfl) hm ht h fun fs' md td xd m t x hs _=>K fs' md td xd m t x hs
   | some l=>
    obtain ⟨r,hr1,hr2⟩:=hr
    rw [hr1]
    simp only
    refine cN (fun g h=>h.elim (hOb g) (fun h=>by cases h)) l r hr2 hm ht h fun fs' cs' md' td' ts' m' t' hsub _ hm' ht' h'=>?_
    simp only [gO,bO]
    exact gE hD hB hOb hm' (fun _ h=>h) (fun _=>rfl) hm' ht' h' fun fs2 md td xd m t x hs2 _=>K fs2 md td xd m t x fun φ hφ=>hs2 _ (hsub _ hφ)
def xm {E':Env} (hD:D.nq E P B E') (hq:E'.quiet=true) (hb:E'.bare=false) (hB:∀w,Below W.heap.size W w→B w) (hOb:∀g,W.heap.size≤g→Ob g) {o:Oper} {st:Bool} {fs fs0:List Fact} {md0 md:MD} {m0 m:M} {td:List TD} {t:List T} {kd:DK} {k:M→List T→T→Tree}
  (h0:RM Ob fs0 md0 m0) (hsub:∀φ∈fs0,φ∈fs) (hst:st=true→fs0=fs) (hm:RM Ob fs md m) (ht:aS fs td t) (h:sq P E' D o st md0 md td kd) (K:KS Ob P W Q ds E' D o td fs kd k):(step E' o m0 m t k).aD P W none Q ds:=by
 unfold sq at h
 cases hbs:wh E' o td with
 | true=>rw [hbs] at h;exact h.elim
 | false=>
  rw [hbs] at h
  have h:bif mJ E' o then dB P E' D o false md0 md td (fun md td x=>cu D.sy x md td (fun x md td=>kd md td x)) else dB P E' D o st md0 md td kd:=h
  have h1:qL o t=none:=by
   unfold qL
   unfold wh at hbs
   cases ho:o.op with
   | buildSlice ty n parts=>
    rw [ho] at hbs
    simp only [Bool.or_eq_false_iff] at hbs
    obtain ⟨_,hbs⟩:=hbs
    split at hbs
    ·rename_i hz;exact rO oM (tJ ht parts.toList) hz
    ·cases hbs
   | _=>rfl
  have h2:(E'.soon&&Ho o)=false:=by
   unfold Ho
   unfold wh at hbs
   cases ho:o.op with
   | buildSlice ty n parts=>
    rw [ho] at hbs
    simp only [Bool.or_eq_false_iff] at hbs
    rw [hbs.1];rfl
   | _=>exact Bool.and_false _
  cases hsm:mJ E' o with
  | false=>
   rw [hsm] at h
   have h3:qN E' o=false:=by unfold qN;rw [h2,hsm];rfl
   unfold step
   rw [hq,hb,hD.keep,h1,h3]
   simp only [cond_true,cond_false,Bool.false_and]
   exact gE hD hB hOb h0 hsub hst hm ht h K
  | true=>
   rw [hsm] at h
   have h3:qN E' o=true:=by unfold qN;rw [hsm];exact Bool.or_true _
   have h4:cO E' D o td=false:=by
    unfold cO
    rw [hsm]
    unfold mJ at hsm
    cases ho:o.op with
    | makeSlice ty a b=>simp
    | _=>rw [ho] at hsm;cases hsm
   unfold step
   rw [hq,hb,hD.keep,h1,h3]
   simp only [cond_true,cond_false,Bool.false_and]
   have h:dB P E' D o false md0 md td (fun md td x=>cu D.sy x md td (fun x md td=>kd md td x)):=h
   refine gE (st:=false) hD hB hOb h0 hsub (fun h=>Bool.noConfusion h) hm ht h fun fs' md td xd m t x hs _ hm ht hx hk=>?_
   refine cM (fun g h=>h.elim (hOb g) (fun h=>by cases h)) hx hm ht hk fun fs2 xd md td x m t hs2 hx hm ht hk=>?_
   simp only [gO,bO]
   exact K fs2 md td xd m t x (fun φ hφ=>hs2 _ (hs _ hφ)) (fun h=>by rw [h4] at h;cases h) hm ht hx hk
def zl {X:Option (List Nat)} {n0:Nat} {o:Oper} {fs:List Fact} {td:List TD} {t:List T} (ht:aS fs td t) (h:a0X X n0 o td=true):fA X n0 o t=true:=by
 unfold a0X at h
 unfold fA
 cases X with
 | none=>rfl
 | some X=>
  cases ho:o.op with
  | store ty a x=>
   rw [ho] at h
   simp only at h ⊢
   have ha:=ht.ev a
   cases had:dev td a with
   | p b off=>rw [had] at h ha;have ha:ev t a=_:=ha;rw [ha];exact h
   | _=>rw [had] at h;cases h
  | _=>rfl
def qO {st:Bool} {o:Oper} {l:List Oper} (h:(st&&(o::l).all KJ)=true):(st&&l.all KJ)=true:=by
 rw [List.all_cons,Bool.and_eq_true,Bool.and_eq_true] at h
 rw [Bool.and_eq_true]
 exact ⟨h.1,h.2.2⟩
def cy {E':Env} {X:Option (List Nat)} (hD:D.nq E P B E') (hX:match X with | none=>E'.quiet=false∧E'.opens=[] | some _=>E'.quiet=true∧E'.bare=false) (hB:∀w,Below W.heap.size W w→B w) (hOb:∀g,W.heap.size≤g→Ob g) {all:List Oper} {kd:DM} {k:M→List T→Tree} :
  ∀(l:List Oper) {st:Bool} {fs fs0:List Fact} {md0 md:MD} {m0 m:M} {td:List TD} {t:List T},RM Ob fs0 md0 m0→(∀φ∈fs0,φ∈fs)→(X≠none→st=true→fs0=fs)→RM Ob fs md m→aS fs td t→kI P E' D X all l st md0 md td kd→
  (∀fs' md td m t,(∀φ∈fs,φ∈fs')→(X≠none→(st&&l.all KJ)=true→fs0=fs')→RM Ob fs' md m→aS fs' td t→kd md td→(k m t).aD P W none Q ds)→(ops E' X all l m0 m t k).aD P W none Q ds
 | [],st,fs,fs0,md0,md,m0,m,td,t,h0,hsub,hst,hm,ht,h,K=>K fs md td m t (fun _ h=>h) (fun h1 h=>hst h1 (by rw [Bool.and_eq_true] at h;exact h.1)) hm ht h
 | o::rest,st,fs,fs0,md0,md,m0,m,td,t,h0,hsub,hst,hm,ht,h,K=>by
  have step1:∀{td0:List TD} {t:List T},aS fs td0 t→Ni P E' D X o st md0 md td0 (fun md' td' x=>fV md' (fun md'=>bD (pz td' o.dst x) (fun td=>kI P E' D X all rest (st&&cO E' D o td0) md0 md' td kd)))→
    (step E' o (mA X m0 m) m t (fun m' t' x=>mu o m' (fun m'=>cJ (put t' o.dst x) (fun t=>ops E' X all rest m0 m' t k)))).aD P W none Q ds:=fun {td0 t} ht h=>by
   have fin:∀fs' md td xd m t x,(∀φ∈fs,φ∈fs')→(X≠none→(st&&cO E' D o td0)=true→fs0=fs')→RM Ob fs' md m→aS fs' td t→bJ fs' xd x→fV md (fun md'=>bD (pz td o.dst xd) (fun td=>kI P E' D X all rest (st&&cO E' D o td0) md0 md' td kd))→(mu o m (fun m'=>cJ (put t o.dst x) (fun t=>ops E' X all rest m0 m' t k))).aD P W none Q ds:=fun fs' md td xd m t x hs hs2 hm ht hx hk=>by
    rw [ug,dI] at hk
    rw [ki,bO]
    exact cy hD hX hB hOb rest h0 (fun φ hφ=>hs _ (hsub _ hφ)) hs2 hm (ht.put o.dst hx) hk fun fs2 md td m t hs3 hq=>K fs2 md td m t (fun φ hφ=>hs3 _ (hs _ hφ)) fun h1 h=>hq h1 (by
     rw [List.all_cons,Bool.and_eq_true,Bool.and_eq_true] at h
     rw [Bool.and_eq_true,Bool.and_eq_true]
     exact ⟨⟨h.1,by unfold cO;rw [Dw h.2.1];rfl⟩,h.2.2⟩)
   cases X with
   | none=>exact yp hD hX.1 hX.2 hB hOb hm ht h fun fs' md td xd m t x hs hm ht hx hk=>fin fs' md td xd m t x hs (fun h=>absurd rfl h) hm ht hx hk
   | some X=>
    exact xm hD hX.1 hX.2 hB hOb h0 hsub (hst (by simp)) hm ht h fun fs' md td xd m t x hs hs2 hm ht hx hk=>fin fs' md td xd m t x hs (fun h1 h=>by
     rw [Bool.and_eq_true] at h
     exact (hst h1 h.1).trans (hs2 h.2).symm) hm ht hx hk
  have okS:∀{td:List TD} {t:List T} {a:Prop} {b:Tree},aS fs td t→(bif a0X X md0.own.length o td then a else False)→(a→b.aD P W none Q ds)→(bif fA X m0.own.length o t then b else .bad "a store").aD P W none Q ds:=fun {td t a b} ht h f=>by
   cases hk:a0X X md0.own.length o td with
   | false=>rw [hk] at h;exact h.elim
   | true=>
    rw [hk] at h
    rw [h0.ol] at hk
    rw [zl ht hk]
    exact f h
  unfold kI at h
  unfold ops
  cases hg:o.guard with
  | none=>
   rw [hg] at h
   exact okS ht h (step1 ht)
  | some q=>
   obtain ⟨i,b⟩:=q
   rw [hg] at h
   simp only at h ⊢
   cases hj:(nth all i).bind (·.dst) with
   | none=>rw [hj] at h;exact h.elim
   | some j=>
    rw [hj] at h
    simp only at h ⊢
    have hx:=ht.get j
    cases hd:sk td j with
    | v u=>
     rw [hd] at h hx
     have hx:get t j=.v u:=hx
     rw [hx]
     cases u with
     | bool c=>
      simp only at h ⊢
      refine DY h (fun h=>?_) (fun h=>?_)
      ·exact okS ht h (step1 (ht.set j (x:=.v (.bool b)) (y:=.v (.bool b)) rfl))
      ·rw [dI] at h
       rw [bO]
       exact cy hD hX hB hOb rest h0 hsub hst hm ((ht.set j (x:=.v (.bool !b)) (y:=.v (.bool !b)) rfl).put o.dst (x:=.v undef) (y:=.v undef) rfl) h fun fs2 md td m t hs3 hq=>K fs2 md td m t hs3 fun h1 h=>hq h1 (qO h)
     | tuple us=>
      simp only at h ⊢
      rw [dI] at h
      rw [bO]
      exact cy hD hX hB hOb rest h0 hsub hst hm (ht.put o.dst (x:=.v undef) (y:=.v undef) rfl) h fun fs2 md td m t hs3 hq=>K fs2 md td m t hs3 fun h1 h=>hq h1 (qO h)
     | _=>exact h.elim
    | _=>rw [hd] at h;exact h.elim
end
end Go.Proofs.YtdbjakibneeeiaaGreatDoor.Sx
namespace Go.Proofs.YtdbjakibneeeiaaGreatDoor.Sx
open Go.RowKit
variable {Ob : Nat → Prop}
def bU (a:Bool) (nb nr:Nat):List TD→Bool
 | []=>true
 | x::l=>(match x with
  | .any=>a
  | .p b _=>Nat.blt b nb
  | .fn _ c=>c.all fun q=>Nat.blt q.1 nb
  | .s b _=>Nat.blt b nb
  | .r i=>Nat.blt i nr
  | .q i _ _ _=>Nat.blt i nr
  | _=>true)&&bU a nb nr l
def iD (nb nr:Nat):List (Option (List TD×TypeId))→Bool
 | []=>true
 | some (cs,_)::l=>bU false nb nr cs&&iD nb nr l
 | none::l=>iD nb nr l
def A6:List TD→List T→List T
 | .any::l,_::r=>.any::A6 l r
 | _::l,t::r=>t::A6 l r
 | _,_=>[]
def lF {α β:Type}:List (Option α)→List (Option β)→List (Option β)
 | none::l,_::r=>none::lF l r
 | some _::l,t::r=>t::lF l r
 | _,_=>[]
section
variable {fs : List Fact}
def YH:∀{r:List TD} {t:List T},aS fs r t→aS fs r (A6 r t)
 | [],t,k=>by
  have:t=[]:=List.eq_nil_of_length_eq_zero (by simpa using k.1.symm)
  subst this;exact k
 | x::r,t,k=>by
  obtain ⟨u,us,rfl,h1,h2⟩:=k.tail
  cases x with
  | any=>exact aS.cons (c:=.any) (t:=.any) trivial (YH h2)
  | _=>exact aS.cons h1 (YH h2)
def xq:∀{r:List TD} {t:List T},aS fs r t→Mj t (A6 r t)
 | [],t,k=>by
  have:t=[]:=List.eq_nil_of_length_eq_zero (by simpa using k.1.symm)
  subst this;trivial
 | x::r,t,k=>by
  obtain ⟨u,us,rfl,h1,h2⟩:=k.tail
  cases x with
  | any=>exact ⟨.inl rfl,xq h2⟩
  | _=>exact ⟨.inr rfl,xq h2⟩
def Cg {nb nr:Nat} {a:Bool} {x:TD} {t:T} (ha:x≠.any) (h:bJ fs x t) (hf:bU a nb nr [x]=true):fits nb nr [t]=true:=by
 cases x with
 | any=>exact absurd rfl ha
 | r i=>have h:t=_:=h;subst h;exact hf
 | p b o=>have h:t=_:=h;subst h;exact hf
 | fn f c=>have h:t=_:=h;subst h;exact hf
 | s b n=>have h:t=_:=h;subst h;exact hf
 | q i z j o=>have h:t=_:=h;subst h;exact hf
 | v u=>have h:t=_:=h;subst h;rfl
 | e s L j o=>obtain ⟨_,_,_,e,_⟩:=h;subst e;rfl
 | d s L=>obtain ⟨_,e,_⟩:=h;subst e;rfl
 | g cs=>obtain ⟨_,e,_⟩:=h;subst e;rfl
 | u cs=>obtain ⟨_,e,_⟩:=h;subst e;rfl
def oY {nb nr:Nat} {t:T} {l:List T}:fits nb nr (t::l)=(fits nb nr [t]&&fits nb nr l):=by
 simp only [fits,Bool.and_true]
def cR {a:Bool} {nb nr:Nat} {t:TD} {l:List TD}:bU a nb nr (t::l)=(bU a nb nr [t]&&bU a nb nr l):=by
 simp only [bU,Bool.and_true]
def yc {nb nr:Nat}:∀{r:List TD} {t:List T},aS fs r t→bU true nb nr r=true→fits nb nr (A6 r t)=true
 | [],t,k,_=>by cases t <;> rfl
 | x::r,t,k,h=>by
  obtain ⟨u,us,rfl,h1,h2⟩:=k.tail
  rw [cR,Bool.and_eq_true] at h
  have ih:=yc h2 h.2
  cases x with
  | any=>show fits nb nr (.any::A6 r us)=true;rw [oY,ih];rfl
  | _=>
   show fits nb nr (u::A6 r us)=true
   rw [oY,ih,Cg (by simp) h1 h.1];rfl
def A9 {nb nr:Nat}:∀{r:List TD} {t:List T},aS fs r t→bU false nb nr r=true→fits nb nr t=true
 | [],t,k,_=>by
  have:t=[]:=List.eq_nil_of_length_eq_zero (by simpa using k.1.symm)
  subst this;rfl
 | x::r,t,k,h=>by
  obtain ⟨u,us,rfl,h1,h2⟩:=k.tail
  rw [cR,Bool.and_eq_true] at h
  have ih:=A9 h2 h.2
  rw [oY,ih,Cg (by rintro rfl;simp [bU] at h) h1 h.1];rfl
def rC {α β:Type}:∀{l:List (Option α)} {r:List (Option β)},l.length≤r.length→GX r (lF l r)
 | [],r,_=>by cases r <;> trivial
 | none::l,[],h=>by simp at h
 | some _::l,[],h=>by simp at h
 | none::l,x::r,h=>⟨.inl rfl,rC (by simpa using h)⟩
 | some _::l,x::r,h=>⟨.inr rfl,rC (by simpa using h)⟩
def jH {α β:Type}:∀{l:List (Option α)} {r:List (Option β)},l.length≤r.length→l.length=(lF l r).length
 | [],r,_=>by cases r <;> rfl
 | none::l,[],h=>by simp at h
 | some _::l,[],h=>by simp at h
 | none::l,x::r,h=>by simp only [lF,List.length_cons];rw [jH (l:=l) (r:=r) (by simpa using h)]
 | some _::l,x::r,h=>by simp only [lF,List.length_cons];rw [jH (l:=l) (r:=r) (by simpa using h)]
def oR {α β:Type}:∀{l:List (Option α)} {r:List (Option β)} {i:Nat} {x:α},l.length≤r.length→l[i]?=some (some x)→(lF l r)[i]?=r[i]?
 | [],r,i,x,_,h=>by simp at h
 | none::l,[],i,x,h,_=>by simp at h
 | some _::l,[],i,x,h,_=>by simp at h
 | none::l,y::r,i,x,hl,h=>by
  cases i with
  | zero=>simp at h
  | succ i=>exact oR (l:=l) (r:=r) (i:=i) (x:=x) (by simpa using hl) (by simpa using h)
 | some _::l,y::r,i,x,hl,h=>by
  cases i with
  | zero=>rfl
  | succ i=>exact oR (l:=l) (r:=r) (i:=i) (x:=x) (by simpa using hl) (by simpa using h)
def pI {α β:Type}:∀{l:List (Option α)} {r:List (Option β)} {i:Nat} {x:β},(lF l r)[i]?=some (some x)→∃y,l[i]?=some (some y)
 | [],r,i,x,h=>by cases r <;> simp [lF] at h
 | none::l,[],i,x,h=>by simp [lF] at h
 | some _::l,[],i,x,h=>by simp [lF] at h
 | none::l,y::r,i,x,h=>by
  cases i with
  | zero=>simp [lF] at h
  | succ i=>exact pI (l:=l) (r:=r) (i:=i) (by simpa [lF] using h)
 | some z::l,y::r,i,x,h=>by
  cases i with
  | zero=>exact ⟨z,rfl⟩
  | succ i=>exact pI (l:=l) (r:=r) (i:=i) (by simpa [lF] using h)
def iD.get {nb nr:Nat}:∀{l:List (Option (List TD×TypeId))},iD nb nr l=true→∀(b:Nat) cs ty,l[b]?=some (some (cs,ty))→bU false nb nr cs=true
 | some (cs0,ty0)::l,h,b,cs,ty,hb=>by
  simp only [iD,Bool.and_eq_true] at h
  cases b with
  | zero=>simp at hb;rw [← hb.1];exact h.1
  | succ b=>exact iD.get h.2 b cs ty (by simpa using hb)
 | none::l,h,b,cs,ty,hb=>by
  cases b with
  | zero=>simp at hb
  | succ b=>exact iD.get (l:=l) h b cs ty (by simpa using hb)
def tO {nb nr:Nat}:∀{l:List (Option (List T×TypeId))},(∀(b:Nat) cs ty,l[b]?=some (some (cs,ty))→fits nb nr cs=true)→lI nb nr l=true
 | [],_=>rfl
 | some (cs,ty)::l,h=>by
  simp only [lI,Bool.and_eq_true]
  exact ⟨h 0 cs ty rfl,tO fun b cs ty hb=>h (b+1) cs ty (by simpa using hb)⟩
 | none::l,h=>tO (l:=l) fun b cs ty hb=>h (b+1) cs ty (by simpa using hb)
end
end Go.Proofs.YtdbjakibneeeiaaGreatDoor.Sx
namespace Go.Proofs.YtdbjakibneeeiaaGreatDoor.Sx
open Go.RowKit
variable {Ob : Nat → Prop}
def MD.jF (m:MD):List Nat→MD
 | []=>m
 | b::l=>MD.jF { m with own:=m.own.set b none } l
def tE (m:MD):List Nat→Bool
 | []=>true
 | b::l=>((m.own[b]?).join).isSome&&tE m l
def xC (P:Program) (E:Env) (D:DE) (all:List Oper):Ord→MD→List TD→DM→Prop
 | .done,m,t,k=>k m t
 | .last i r,m,t,k=>kI P E D none all (bh all [i]) true m m t (fun m t=>xC P E D all r m t k)
 | _,_,_,_=>False
def mY (P:Program) (E:Env) (D:DE) (X:Option (List Nat)) (all:List Oper):Nat→Ord→Bool→MD→MD→List TD→DM→Prop
 | 0,_,_,_,_,_,_=>False
 | f+1,l,st,m0,m,t,k=>match l.spine.2 with
  | .done=>kI P E D X all (bh all l.spine.1) st m0 m t k
  | .last i r=>kI P E D X all (bh all l.spine.1) st m0 m t (fun m t=>xC P { E with quiet:=false } D all (.last i r) m t k)
  | .fork i r j s=>kI P E D X all (bh all l.spine.1) st m0 m t (fun m t=>mY P E D X all f (.one i r) (st&&(bh all l.spine.1).all KJ) m0 m t k∧mY P E D X all f (.one j s) (st&&(bh all l.spine.1).all KJ) m0 m t k)
  | .fork3 i r j s h u=>kI P E D X all (bh all l.spine.1) st m0 m t (fun m t=>mY P E D X all f (.one i r) (st&&(bh all l.spine.1).all KJ) m0 m t k∧mY P E D X all f (.one j s) (st&&(bh all l.spine.1).all KJ) m0 m t k∧mY P E D X all f (.one h u) (st&&(bh all l.spine.1).all KJ) m0 m t k)
  | .now i r=>kI P E D X all (bh all l.spine.1) st m0 m t (fun m t=>kI P E D (some []) all (bh all [i]) true m m t (fun m t=>mY P E D X all f r false m0 m t k))
  | .one _ _=>False
def Ek (t:List TD) (c:Operand) (b:Bool):List TD:=match c with | .tmp i=>t.set i (.v (.bool b)) | _=>t
section
variable {P : Program} {W : World} {Q : Ending → World → Prop} {ds : List Deferred} {B : World → Prop} {D : DE} {E : Env}
def RM.jF {fs:List Fact}:∀(X:List Nat) {md:MD} {m:M},RM Ob fs md m→RM Ob fs (md.jF X) (m.jF X)
 | [],md,m,h=>h
 | b::X,md,m,h=>by
  refine RM.jF X (md:={ md with own:=md.own.set b none }) (m:={ m with own:=m.own.set b none }) ⟨h.fe,h.ob,by simp [h.ol],fun c cs ty hc=>?_,h.rl,h.row⟩
  simp only [List.getElem?_set] at hc ⊢
  by_cases e:b=c
  ·rw [if_pos e] at hc
   split at hc <;> simp at hc
  ·rw [if_neg e] at hc ⊢
   exact h.own c cs ty hc
def sU {fs:List Fact} {md:MD} {m:M} (h:RM Ob fs md m):∀(X:List Nat),tE md X=true→alive m X=true
 | [],_=>rfl
 | b::X,hx=>by
  simp only [tE,Bool.and_eq_true] at hx
  simp only [alive,Bool.and_eq_true]
  refine ⟨?_,sU h X hx.2⟩
  cases hb:(md.own[b]?).join with
  | none=>rw [hb] at hx;cases hx.1
  | some q=>
   obtain ⟨cs,ty⟩:=q
   obtain ⟨ts,h1,_⟩:=h.own b cs ty (Option.join_eq_some_iff.1 hb)
   rw [h1];rfl
def o9 {E':Env} (hD:D.nq E P B E') (hX:E'.quiet=false∧E'.opens=[]) (hB:∀w,Below W.heap.size W w→B w) (hOb:∀g,W.heap.size≤g→Ob g) {all:List Oper} {kd:DM} {k:M→List T→Tree} :
  ∀(l:Ord) {fs:List Fact} {md:MD} {m:M} {td:List TD} {t:List T},RM Ob fs md m→aS fs td t→xC P E' D all l md td kd→
  (∀fs' md td m t,RM Ob fs' md m→aS fs' td t→kd md td→(k m t).aD P W none Q ds)→(vl E' all l m t k).aD P W none Q ds
 | .done,fs,md,m,td,t,hm,ht,h,K=>K _ _ _ _ _ hm ht h
 | .last i r,fs,md,m,td,t,hm,ht,h,K=>
  cy (X:=none) hD hX hB hOb _ hm (fun _ h=>h) (fun h=>absurd rfl h) hm ht h fun fs' md td m t _ _ hm ht h=>o9 hD hX hB hOb r hm ht h K
 | .one _ _,fs,md,m,td,t,hm,ht,h,K=>h.elim
 | .fork _ _ _ _,fs,md,m,td,t,hm,ht,h,K=>h.elim
 | .fork3 _ _ _ _ _ _,fs,md,m,td,t,hm,ht,h,K=>h.elim
 | .now _ _,fs,md,m,td,t,hm,ht,h,K=>h.elim
def dJ {E':Env} {X:List Nat} (hD:D.nq E P B E') (hX:E'.quiet=true∧E'.bare=false) (hop:E'.opens=[]) (hB:∀w,Below W.heap.size W w→B w) (hOb:∀g,W.heap.size≤g→Ob g) {all:List Oper} {kd:DM} {k:M→List T→Tree} :
  ∀(f:Nat) (l:Ord) {st:Bool} {fs fs0:List Fact} {md0 md:MD} {m0 m:M} {td:List TD} {t:List T},RM Ob fs0 md0 m0→(∀φ∈fs0,φ∈fs)→(st=true→fs0=fs)→RM Ob fs md m→aS fs td t→mY P E' D (some X) all f l st md0 md td kd→
  (∀fs' md td m t,RM Ob fs' md m→aS fs' td t→kd md td→(k m t).aD P W none Q ds)→(rq E' (some X) all f l m0 m t k).aD P W none Q ds
 | 0,l,st,fs,fs0,md0,md,m0,m,td,t,h0,hsub,hst,hm,ht,h,K=>h.elim
 | f+1,l,st,fs,fs0,md0,md,m0,m,td,t,h0,hsub,hst,hm,ht,h,K=>by
  unfold mY at h
  unfold rq
  cases hs:l.spine.2 with
  | done=>
   rw [hs] at h
   simp only [cY] at h ⊢
   exact cy (X:=some X) hD hX hB hOb _ h0 hsub (fun _=>hst) hm ht h fun fs' md td m t _ _ hm ht h=>K _ _ _ _ _ hm ht h
  | one i r=>rw [hs] at h;exact h.elim
  | last i r=>
   rw [hs] at h
   simp only [cY] at h ⊢
   refine cy (X:=some X) hD hX hB hOb _ h0 hsub (fun _=>hst) hm ht h fun fs' md td m t _ _ hm ht h=>?_
   exact o9 (E':={ E' with quiet:=false }) ⟨hD.ok,hD.zero,hD.agg,hD.str,hD.keep,⟨hD.eok.zero,hD.eok.agg1,hD.eok.aggN,hD.eok.off,hD.eok.row,hD.eok.str,hD.eok.strs,hD.eok.ints,hD.eok.size,hD.eok.mixed,hD.eok.row1,hD.eok.meth,hD.eok.arr⟩⟩ ⟨rfl,hop⟩ hB hOb _ hm ht h K
  | fork i r j s=>
   rw [hs] at h
   simp only [cY] at h ⊢
   refine cy (X:=some X) hD hX hB hOb _ h0 hsub (fun _=>hst) hm ht h fun fs' md td m t hs' hst' hm ht h=>?_
   have hq:∀φ∈fs0,φ∈fs':=fun φ hφ=>hs' _ (hsub _ hφ)
   exact ⟨dJ hD hX hop hB hOb f _ h0 hq (hst' (by simp)) hm ht h.1 K,dJ hD hX hop hB hOb f _ h0 hq (hst' (by simp)) hm ht h.2 K⟩
  | fork3 i r j s l u=>
   rw [hs] at h
   simp only [cY] at h ⊢
   refine cy (X:=some X) hD hX hB hOb _ h0 hsub (fun _=>hst) hm ht h fun fs' md td m t hs' hst' hm ht h=>?_
   have hq:∀φ∈fs0,φ∈fs':=fun φ hφ=>hs' _ (hsub _ hφ)
   exact ⟨dJ hD hX hop hB hOb f _ h0 hq (hst' (by simp)) hm ht h.1 K,dJ hD hX hop hB hOb f _ h0 hq (hst' (by simp)) hm ht h.2.1 K,dJ hD hX hop hB hOb f _ h0 hq (hst' (by simp)) hm ht h.2.2 K⟩
  | now i r=>
   rw [hs] at h
   simp only [cY] at h ⊢
   refine cy (X:=some X) hD hX hB hOb _ h0 hsub (fun _=>hst) hm ht h fun fs' md td m t hs' hst' hm ht h=>?_
   have hq:∀φ∈fs0,φ∈fs':=fun φ hφ=>hs' _ (hsub _ hφ)
   rw [hX.2]
   refine cy (X:=some []) hD hX hB hOb _ hm (fun _ h=>h) (fun _ _=>rfl) hm ht h fun fs2 md td m t hs2 _ hm ht h=>?_
   exact dJ hD hX hop hB hOb f _ h0 (fun φ hφ=>hs2 _ (hq _ hφ)) (fun h=>by cases h) hm ht h K
def we {fs:List Fact}:∀(l:List Nat),aS fs (l.map TD.r) (zD l)
 | []=>aS.nil
 | i::l=>aS.cons (c:=.r i) (t:=.r i) rfl (we l)
def vz {fs:List Fact} {td:List TD} {t:List T} (h:aS fs td t) (c:Operand) (b:Bool):aS fs (Ek td c b) (GY t c b):=by
 cases c with
 | tmp i=>exact h.set i (x:=.v (.bool b)) (y:=.v (.bool b)) rfl
 | _=>exact h
end
end Go.Proofs.YtdbjakibneeeiaaGreatDoor.Sx
namespace Go.Proofs.YtdbjakibneeeiaaGreatDoor.Sx
open Go.RowKit
variable {Ob : Nat → Prop}
def r8 (x:TD):Bool:=match x with | .v _=>true | .d _ _=>true | .g _=>true | .u _=>true | _=>false
def kf (E:Env) (sy:List (TypeId×Sh)):List ResultVar→MD→List TD→(List TD→Prop)→Prop
 | [],m,t,k=>k []
 | .tmp i::l,m,t,k=>cu sy (sk t i) m t (fun x m t=>bif r8 x then kf E sy l m t (fun vs=>k (x::vs)) else False)
 | .cell i ty::l,m,t,k=>match sk t i with
  | .p b off=>match (m.own[b]?).join,lk E.agg ty with
   | some (cs,_),some (some n)=>eY sy (jB cs off n) m t (fun xs m t=>bif xs.all r8&&(xs.length==n) then kf E sy l m t (fun vs=>k (.g xs::vs)) else False)
   | some (cs,_),some none=>match cs[off]? with
    | some x=>cu sy x m t (fun x m t=>bif r8 x then kf E sy l m t (fun vs=>k (x::vs)) else False)
    | none=>False
   | _,_=>False
  | _=>False
def F5:Nat→List TD
 | 0=>[]
 | n+1=>.any::F5 n
section
variable {P : Program} {W : World} {Q : Ending → World → Prop} {ds : List Deferred} {B : World → Prop} {D : DE} {E : Env}
def sS {fs:List Fact} {x:TD} {t:T} (hx:r8 x=true) (h:bJ fs x t):∃y,t=.v y∧gD fs x y:=by
 cases x with
 | v u=>exact ⟨u,h,rfl⟩
 | d s L=>exact h
 | g cs=>exact h
 | u cs=>exact h
 | _=>cases hx
def vj {fs:List Fact}:∀{xs:List TD} {ts:List T},xs.all r8=true→aS fs xs ts→∃vs,aH ts=some vs∧bz fs xs vs∧vs.length=xs.length
 | [],ts,_,h=>by
  have:ts=[]:=List.eq_nil_of_length_eq_zero (by simpa using h.1.symm)
  subst this
  exact ⟨[],rfl,rfl,rfl⟩
 | x::xs,ts,hx,h=>by
  obtain ⟨u,us,rfl,h1,h2⟩:=h.tail
  simp only [List.all_cons,Bool.and_eq_true] at hx
  obtain ⟨y,rfl,hy⟩:=sS hx.1 h1
  obtain ⟨vs,e,hv,hl⟩:=vj hx.2 h2
  exact ⟨y::vs,by simp only [aH,e,Option.map_some],⟨y,vs,rfl,hy,hv⟩,by simp [hl]⟩
def jV {E':Env} {sy:List (TypeId×Sh)} (hOb:∀g,W.heap.size≤g→Ob g) :
  ∀(l:List ResultVar) {fs:List Fact} {md:MD} {m:M} {td:List TD} {t:List T} {kd:List TD→Prop} {k:List Value→M→Tree},RM Ob fs md m→aS fs td t→kf E' sy l md td kd→
  (∀fs' us vs md m,(∀φ∈fs,φ∈fs')→RM Ob fs' md m→bz fs' us vs→kd us→(k vs m).aD P W none Q ds)→(gu E' l m t k).aD P W none Q ds
 | [],fs,md,m,td,t,kd,k,hm,ht,h,K=>K fs [] [] md m (fun _ h=>h) hm rfl h
 | .tmp i::l,fs,md,m,td,t,kd,k,hm,ht,h,K=>by
  have hOb':∀g,W.heap.size≤g∨some g=none→Ob g:=fun g h=>h.elim (hOb g) (fun h=>by cases h)
  refine cM (G:=none) hOb' (ht.get i) hm ht h fun fs' xd md td x m t hs hx hm ht h=>?_
  cases hv:r8 xd with
  | false=>rw [hv] at h;exact h.elim
  | true=>
   rw [hv] at h
   obtain ⟨y,rfl,hy⟩:=sS hv hx
   exact jV hOb l hm ht h fun fs2 us vs md m hs2 hm hu hk=>K fs2 (xd::us) (y::vs) md m (fun φ hφ=>hs2 _ (hs _ hφ)) hm ⟨y,vs,rfl,hy.mono hs2,hu⟩ hk
 | .cell i ty::l,fs,md,m,td,t,kd,k,hm,ht,h,K=>by
  have hOb':∀g,W.heap.size≤g∨some g=none→Ob g:=fun g h=>h.elim (hOb g) (fun h=>by cases h)
  unfold kf at h
  unfold gu
  have hi:=ht.get i
  cases hd:sk td i with
  | p b off=>
   rw [hd] at h hi
   have hi:get t i=.p b off:=hi
   rw [hi]
   simp only at h ⊢
   cases hb:(md.own[b]?).join with
   | none=>rw [hb] at h;cases hag:lk E'.agg ty <;> rw [hag] at h <;> exact h.elim
   | some q=>
    obtain ⟨cs,e⟩:=q
    obtain ⟨ts,hts,hr⟩:=hm.own b cs e (Option.join_eq_some_iff.1 hb)
    have hc:m.cells b=some (ts,e):=by unfold M.cells;rw [hts];rfl
    rw [hb] at h
    rw [hc]
    cases hag:lk E'.agg ty with
    | none=>rw [hag] at h;exact h.elim
    | some n=>
     rw [hag] at h
     cases n with
     | some n=>
      refine cN (G:=none) hOb' _ _ ((hr.drop off).take n) hm ht h fun fs' xs md td ts' m t hs hx hm ht h=>?_
      cases hv:xs.all r8&&(xs.length==n) with
      | false=>rw [hv] at h;exact h.elim
      | true=>
       rw [hv] at h
       rw [Bool.and_eq_true] at hv
       obtain ⟨vs0,e0,h0,l0⟩:=vj hv.1 hx
       simp only [e0,l0,hv.2,cond_true]
       exact jV hOb l hm ht h fun fs2 us vs md m hs2 hm hu hk=>K fs2 (.g xs::us) (.agg vs0.toArray::vs) md m (fun φ hφ=>hs2 _ (hs _ hφ)) hm ⟨_,vs,rfl,⟨vs0,rfl,h0.mono hs2⟩,hu⟩ hk
     | none=>
      simp only at h ⊢
      cases hcx:cs[off]? with
      | none=>rw [hcx] at h;exact h.elim
      | some x=>
       rw [hcx] at h
       obtain ⟨y,hy,hxy⟩:=hr.2 off x hcx
       rw [eU,hy]
       refine cM (G:=none) hOb' hxy hm ht h fun fs' xd md td x m t hs hx hm ht h=>?_
       cases hv:r8 xd with
       | false=>rw [hv] at h;exact h.elim
       | true=>
        rw [hv] at h
        obtain ⟨y,rfl,hy⟩:=sS hv hx
        exact jV hOb l hm ht h fun fs2 us vs md m hs2 hm hu hk=>K fs2 (xd::us) (y::vs) md m (fun φ hφ=>hs2 _ (hs _ hφ)) hm ⟨y,vs,rfl,hy.mono hs2,hu⟩ hk
  | _=>rw [hd] at h;exact h.elim
def wC {fs:List Fact}:∀n,aS fs (F5 n) (tX n)
 | 0=>aS.nil
 | n+1=>aS.cons (c:=.any) (t:=.any) trivial (wC n)
def ya {R:Option Addr→List Value→Prop}:∀{l:List Sh} {x:af l} {vs:List Value},cn R l x vs→vs.length=l.length
 | [],_,_,h=>by have h:_=_:=h;rw [h];rfl
 | s::l,_,_,⟨y,us,e,_,h⟩=>by rw [e];simp [ya h]
end
end Go.Proofs.YtdbjakibneeeiaaGreatDoor.Sx
