/- A walk by reckoning: that it is one. -/
import Derived.Test.YtdbjakibneeeiaaGreatDoorKSx
import Derived.Laws.CopyRow
import Derived.Laws.AppendOwnNone
import Derived.Laws.Tables
import Derived.Laws.MakeOwn
set_option linter.all false
set_option maxHeartbeats 4000000
set_option maxRecDepth 100000
namespace Go.Proofs.YtdbjakibneeeiaaGreatDoor.Sx
open Go.RowKit
structure Env.Ok (E:Env) (P:Program):Prop where
 zero:∀e cs,lk E.zero e=some cs→∃z,(zeroValue e).run P=(fun w=>.ok z w)∧ak [] [] cs z.cells.toList∧∀u∈z.cells.toList,u.oneCell'=true
 agg1:∀ty,lk E.agg ty=some none→∀a w,(loadVar ty a).run P w=(load a).run P w
 aggN:∀ty n,lk E.agg ty=some (some n)→∀(a:Addr) (w:World) (vs:List Value),vs.length=n→(∀(j:Nat) (u:Value),vs[j]?=some u→w.cell? (a.add j)=some u)→(loadVar ty a).run P w=.ok (.agg vs.toArray) w
 off:∀s f d,lk E.off (s,f)=some d→∀a w,(Instr.fieldAt s (.pointer (some a)) f).run P w=.ok (.pointer (some (a.add d))) w
 row:∀ty e size bytes,lk E.row ty=some (e,size,bytes)→P.underlying ty=some (.slice e)∧∃i z,P.info? e=some i∧i.zero=some z∧i.size=size∧i.bytes=bytes∧z.cells.size=size∧0<size
 str:∀ty cs places,lk E.str ty=some (cs,places)→∃zc:List Value,ak [] [] cs zc∧∀(parts:Array (Nat×Value)) (c:Array Value),Instr.fill (nth places) zc.toArray parts.toList=some c→∀w,(Instr.build ty parts).run P w=.ok (.agg c) w
 strs:∀ty u,lk E.strs ty=some u→P.underlying ty=some .string
 ints:∀ty u,lk E.ints ty=some u→P.underlying ty=some (.int .i64)
 size:∀ty n,lk E.agg ty=some n→∃i,P.info? ty=some i∧i.size=n.getD 1
 mixed:P.follows .mixedOrders=true
 row1:∀ty e size bytes,lk E.row ty=some (e,size,bytes)→∀i z,P.info? e=some i→i.zero=some z→∀u∈z.cells.toList,u.oneCell'=true
 meth:∀ty n g,lk E.meth (ty,n)=some g→∀v w,(method (P.types.size+Made.depth) ty v n).run P w=.ok (g,v) w
 arr:∀ty n size,lk E.arr ty=some (n,size)→∀(a:Addr) (j:Int) w,0≤j→j<n→(Instr.indexAt ty (.pointer (some a)) (.int .i64 j)).run P w=.ok (.pointer (some (a.add (j.toNat*size)))) w
def uN {z:Array Value} (h:∀u∈z.toList,u.oneCell'=true) (n:Nat):∀u∈(Builtin.zeroCells z n).toList,u.oneCell'=true:=by
 intro u hu
 simp only [Builtin.zeroCells,Array.toList_map,List.mem_map] at hu
 obtain ⟨i,hi,rfl⟩:=hu
 have hi':i<n*z.size:=by simpa using hi
 have hz:0<z.size:=by
  rcases Nat.eq_zero_or_pos z.size with e | e
  ·rw [e,Nat.mul_zero] at hi';omega
  ·exact e
 have hm:=Nat.mod_lt i hz
 rw [getElem!_pos z _ hm]
 exact h _ (by simp)
section
variable (P : Program) (W : World) (G : Option Nat) (Q : Ending → World → Prop)
def UF (m:M) (fs:List Fact) (w w':World):Prop:=∀φ∈fs,∀g,φ.g=some g→((g<W.heap.size∧some g≠G)∨w.heap.size≤g∨∃ψ∈m.facts,ψ.g=some g)∧∃o,w'.heap[g]?=some o∧φ.holds o
def sE (W:World) (G:Option Nat) (a:Option Addr):Prop:=∀ad,a=some ad→W.heap.size≤ad.block∨some ad.block=G
def aP (f:FuncId):Bool:=match P.funcs[f]? with | some fn=>!(fn.name == "runtime.NumGoroutine")&&fn.body.isSome | none=>false
def Tree.aD:Tree→List Deferred→Prop
 | .ret v m,ds=>∀β ρ w,Mem W G m β ρ w→Q (.returned v) w
 | .done p,ds=>p
 | .both x y,ds=>x.aD ds∧y.aD ds
 | .need p x,ds=>p∧x.aD ds
 | .call f args m k,ds=>aP P f=true∧∀β ρ w vs,Mem W G m β ρ w→ak β ρ args vs→Calls P f (List.toArray vs) w fun e w'=>∃v fs,e=.returned v∧Below w.heap.size w w'∧UF W G m fs w w'∧(k v fs).aD ds
 | .load ty a m k,ds=>∃v,(∀β ρ w,Mem W G m β ρ w→(loadVar ty a).run P w=.ok v w)∧(k v).aD ds
 | .prim s k,ds=>∃v,(∀w,s.run P w=.ok (.value v) w)∧(k v).aD ds
 | .peek s m k,ds=>∃v,(∀β ρ w,Mem W G m β ρ w→s.run P w=.ok (.value v) w)∧(k v).aD ds
 | .op q o m t k,ds=>∀β ρ a w,Mem W G m β ρ w→ak β ρ t a.tmps.toList→∀(K:Act→World→Prop) (Q':Exit→Act→World→Prop),(∀m' t' x β' ρ' w' y,(k m' t' x).aD ds→Mem W G m' β' ρ' w'→ak β' ρ' t' a.tmps.toList→Rel β' ρ' x y→(∀F,q=some F→β'=β∧ρ'=ρ∧(Below w.heap.size w w'∨∃φ∈F,∃g,φ.g=some g∧(W.heap.size≤g∨some g=G)∧w.grownBy w' (some g)))→K (a.put o.dst y) w')→o.wp P a w K Q'
 | .share n k,ds=>∀a c,Sl a n c→sE W G a→(k a c).aD ds
 | .zeros n k,ds=>∀xs:List Value,xs.length=n→(k xs).aD ds
 | .vals xs o n k,ds=>∃vs,vs.length=n∧(∀(j:Nat) (u:Value),vs[j]?=some u→xs[o+j]?=some u)∧(k vs).aD ds
 | .own f args i r m k,ds=>aP P f=true∧∀β ρ w vs v,Mem W G m β ρ w→ak β ρ args vs→ρ[i]?=some v→w.ownsRow 0 r.e r.size v r.n r.xs→Calls P f (List.toArray vs) w fun e w'=>∃(b:Bool) (u:Value) (fs:List Fact) (n:Nat) (ys:List Value),e=.returned u∧w.grownBy w' v.ownBlock∧w'.ownsRow 0 r.e r.size (bif b then u else v) n ys∧(b=true→u.ownBlock=v.ownBlock∨(fs=[]∧∀g,u.ownBlock=some g→v.ownBlock=some g∨w.heap.size≤g))∧UF W G m fs w w'∧(k b u fs n ys).aD ds
 | .make f args e size m k,ds=>aP P f=true∧∀β ρ w vs,Mem W G m β ρ w→ak β ρ args vs→Calls P f (List.toArray vs) w fun e' w'=>∃v n ys,e'=.returned v∧Below w.heap.size w w'∧w'.ownsRow w.heap.size e size v n ys∧(k n ys).aD ds
 | .rows a n size m k,ds=>∃xs,xs.length=n*size∧(∀u∈xs,u.oneCell'=true)∧(∀β ρ w,Mem W G m β ρ w→∀ad,a=some ad→∀(j:Nat) (u:Value),xs[j]?=some u→w.cell? (ad.add j)=some u)∧(k xs).aD ds
 | .loop b m t k,ds=>∀β ρ a w,Mem W G m β ρ w→ak β ρ t a.tmps.toList→a.defers=ds→(Code.loop b).wp P (fun e a' w'=>∃m' t' β' ρ',Mem W G m' β' ρ' w'∧ak β' ρ' t' a'.tmps.toList∧a'.defers=ds∧(k e m' t').aD ds) a w
 | .scope b m t k,ds=>∀β ρ a w,Mem W G m β ρ w→ak β ρ t a.tmps.toList→a.defers=ds→(Code.scope b).wp P (fun e a' w'=>∃m' t' β' ρ',Mem W G m' β' ρ' w'∧ak β' ρ' t' a'.tmps.toList∧a'.defers=ds∧(k e m' t').aD ds) a w
 | .bad _,ds=>False
end
abbrev Tree.wp (P:Program) (W:World) (G:Option Nat) (Q:Ending→World→Prop) (t:Tree):Prop:=t.aD P W G Q []
section
variable {P : Program} {W : World} {G : Option Nat} {Q : Ending → World → Prop} {E : Env} {ds : List Deferred}
def C6 {c:Bool} {x y:Tree} (h:(br c x y).aD P W G Q ds):(c=true∧x.aD P W G Q ds)∨(c=false∧y.aD P W G Q ds):=by
 cases c
 ·exact .inr ⟨rfl,h⟩
 ·exact .inl ⟨rfl,h⟩
def bk {c:Bool} {x y:Tree} (h1:c=true→x.aD P W G Q ds) (h2:c=false→y.aD P W G Q ds):(br c x y).aD P W G Q ds:=by
 cases c
 ·exact h2 rfl
 ·exact h1 rfl
def takes (q:Bool) (o:Oper):Bool:=
 match o.op with
 | .move _ | .assign _ | .pick _ _ _ | .load _ _ | .fieldAddr _ _ _ | .indexAddr _ _ _ | .index _ _ _ | .binOp _ _ _ _ _ | .unOp _ _ _ | .extract _ _ | .makeFunc _ _ _ | .build _ _ | .makeInterface _ _ | .convert _ _ _ | .nilCheck _ | .lookup _ _ _ _ | .field _ _ _=>true
 | .slice _ _ _ _ _=>q
 | .call c=>match c.callee with | .builtin .len=>true | .builtin .cap=>true | .builtin .max=>true | .builtin .min=>true | .builtin .complex=>true | .builtin .real=>true | .builtin .imag=>true | _=>false
 | _=>false
def reads (o:Oper):Bool:=match o.op with | .load _ _ | .lookup _ _ _ _ | .call _=>true | _=>false
def aE {β ρ}:∀(cs:List T) (vs l:List Value),aH cs=some vs→ak β ρ cs l→l=vs
 | [],vs,l,h,hr=>by
  cases h
  exact List.eq_nil_of_length_eq_zero hr.1
 | .v x::cs,vs,l,h,hr=>by
  simp only [aH,Option.map_eq_some_iff] at h
  obtain ⟨vs',h',rfl⟩:=h
  cases l with
  | nil=>have:=hr.1;simp at this
  | cons y l=>
   obtain ⟨y',hy,hyr⟩:=hr.2 0 _ rfl
   simp at hy
   subst hy
   have:ak β ρ cs l:=⟨by have:=hr.1;simpa using this,fun i x hx=>by obtain ⟨z,hz,hzr⟩:=hr.2 (i+1) x (by simpa using hx);exact ⟨z,by simpa using hz,hzr⟩⟩
   rw [aE cs vs' l h' this]
   have e:y=x:=hyr
   rw [e]
 | .any::_,_,_,h,_=>by simp [aH] at h
 | .p _ _::_,_,_,h,_=>by simp [aH] at h
 | .fn _ _::_,_,_,h,_=>by simp [aH] at h
 | .s _ _::_,_,_,h,_=>by simp [aH] at h
 | .r _::_,_,_,h,_=>by simp [aH] at h
 | .q _ _::_,_,_,h,_=>by simp [aH] at h
 | .w _ _ _::_,_,_,h,_=>by simp [aH] at h
def join_eq {α:Type} {l:List (Option α)} {i:Nat} {x:α} (h:(l[i]?).join=some x):l[i]?=some (some x):=by
 cases h0:l[i]? with
 | none=>rw [h0] at h;cases h
 | some z=>rw [h0] at h;simp at h;rw [h]
def ptr.QG {β b o y y'} (h:ptr β b o y) (h':ptr β b o y'):y=y':=by
 obtain ⟨g,hg,rfl⟩:=h
 obtain ⟨g',hg',rfl⟩:=h'
 rw [hg] at hg'
 cases hg'
 rfl
def Rel.QG {β ρ x y y'} (hx:x≠.any) (h:Rel β ρ x y) (h':Rel β ρ x y'):y=y':=by
 cases x with
 | any=>exact absurd rfl hx
 | v x=>exact h.trans h'.symm
 | p b o=>exact ptr.QG h h'
 | fn f caps=>
  obtain ⟨cs,rfl,hl,hc⟩:=h
  obtain ⟨cs',rfl,hl',hc'⟩:=h'
  have:cs=cs':=by
   refine List.ext_getElem? fun j=>?_
   cases hj:caps[j]? with
   | none=>
    have:=List.getElem?_eq_none_iff.1 hj
    rw [List.getElem?_eq_none (by omega),List.getElem?_eq_none (by omega)]
   | some c=>
    obtain ⟨u,hu,hp⟩:=hc j c hj
    obtain ⟨u',hu',hp'⟩:=hc' j c hj
    rw [hu,hu',hp.QG hp']
  rw [this]
 | s b n=>
  obtain ⟨g,hg,rfl⟩:=h
  obtain ⟨g',hg',rfl⟩:=h'
  rw [hg] at hg'
  cases hg'
  rfl
 | r i=>
  have:=Eq.trans (Eq.symm h) h'
  exact Option.some.inj this
 | q i o=>
  obtain ⟨v,g,hv,hg,rfl⟩:=h
  obtain ⟨v',g',hv',hg',rfl⟩:=h'
  rw [hv] at hv'
  cases hv'
  rw [hg] at hg'
  cases hg'
  rfl
 | w i lo size=>
  obtain ⟨a,n,c,hv,_,rfl⟩:=h
  obtain ⟨a',n',c',hv',_,rfl⟩:=h'
  rw [hv] at hv'
  cases hv'
  rfl
def Rel.rQ {β ρ x y}:∀(l:List Nat),Rel β ρ x y→Rel (β++l) ρ x y
 | [],h=>by simpa using h
 | g::l,h=>by
  have:=(h.more g).rQ l
  simpa using this
def Rel.iF {β ρ x y}:∀(l:List Value),Rel β ρ x y→Rel β (ρ++l) x y
 | [],h=>by simpa using h
 | g::l,h=>by
  have:=(h.ef g).iF l
  simpa using this
def mH:∀(l:List T) (q:List (Nat×Nat)),p6 l=some q→l.length=q.length∧∀(j:Nat) (c:Nat×Nat),q[j]?=some c→l[j]?=some (.p c.1 c.2)
 | [],q,h=>by cases h;simp
 | .p b o::l,q,h=>by
  simp only [p6,Option.map_eq_some_iff] at h
  obtain ⟨q',h',rfl⟩:=h
  have ih:=mH l q' h'
  refine ⟨by simp [ih.1],fun j c hj=>?_⟩
  cases j with
  | zero=>simp at hj;subst hj;rfl
  | succ j=>simpa using ih.2 j c (by simpa using hj)
 | .any::_,_,h=>by simp [p6] at h
 | .v _::_,_,h=>by simp [p6] at h
 | .fn _ _::_,_,h=>by simp [p6] at h
 | .s _ _::_,_,h=>by simp [p6] at h
 | .r _::_,_,h=>by simp [p6] at h
 | .q _ _::_,_,h=>by simp [p6] at h
 | .w _ _ _::_,_,h=>by simp [p6] at h
def eW (b o k:Nat):(⟨b,o,none⟩:Addr).add k=⟨b,o+k,none⟩:=by unfold Addr.add;split <;> simp_all
def ak.rQ {β ρ t l} (g:List Nat) (h:ak β ρ t l):ak (β++g) ρ t l:=⟨h.1,fun i x hx=>by obtain ⟨y,hy,hr⟩:=h.2 i x hx;exact ⟨y,hy,hr.rQ g⟩⟩
def ak.iF {β ρ t l} (g:List Value) (h:ak β ρ t l):ak β (ρ++g) t l:=⟨h.1,fun i x hx=>by obtain ⟨y,hy,hr⟩:=h.2 i x hx;exact ⟨y,hy,hr.iF g⟩⟩
def Rel.cells {β ρ x y xs} (h:Rel β ρ x y) (hx:jf x=some xs):ak β ρ xs y.cells.toList:=by
 cases x with
 | any=>cases hx
 | v x=>cases hx;obtain rfl:=h;exact ak.vals _
 | p b o=>cases hx;obtain ⟨g,hg,rfl⟩:=h;exact ak.one ⟨g,hg,rfl⟩
 | fn f caps=>cases hx;obtain ⟨cs,rfl,hc⟩:=h;exact ak.one ⟨cs,rfl,hc⟩
 | s b n=>cases hx;obtain ⟨g,hg,rfl⟩:=h;exact ak.one ⟨g,hg,rfl⟩
 | r i=>cases hx
 | q i o=>cases hx
 | w i lo size=>cases hx
def jx {β ρ}:∀(xs:List T) (l:List Value),dF xs=true→ak β ρ xs l→∀u∈l,u.oneCell'=true
 | [],l,_,h,u,hu=>by
  have:=List.eq_nil_of_length_eq_zero h.1
  rw [this] at hu
  cases hu
 | x::xs,l,ho,h,u,hu=>by
  cases l with
  | nil=>cases hu
  | cons y l=>
   obtain ⟨y',hy,hyr⟩:=h.2 0 x rfl
   simp at hy
   subst hy
   have ht:ak β ρ xs l:=⟨by have:=h.1;simpa using this,fun i x hx=>by obtain ⟨z,hz,hzr⟩:=h.2 (i+1) x (by simpa using hx);exact ⟨z,by simpa using hz,hzr⟩⟩
   have hxs:dF xs=true∧y.oneCell'=true:=by
    cases x with
    | any=>cases ho
    | v q=>simp only [dF,Bool.and_eq_true] at ho;obtain rfl:=hyr;exact ⟨ho.2,ho.1⟩
    | p b o=>obtain ⟨g,hg,rfl⟩:=hyr;exact ⟨ho,rfl⟩
    | fn f caps=>obtain ⟨cs,rfl,_⟩:=hyr;exact ⟨ho,rfl⟩
    | s b n=>obtain ⟨g,hg,rfl⟩:=hyr;exact ⟨ho,rfl⟩
    | r i=>cases ho
    | q i o=>cases ho
    | w i lo size=>cases ho
   rcases List.mem_cons.1 hu with rfl | hu
   ·exact hxs.2
   ·exact jx xs l hxs.1 ht u hu
def zz (off:Nat):∀(xs:List Value) (k:Nat) (l:Array Value) (i:Nat),((xs.zipIdx k).foldl (fun cs q=>cs.setIfInBounds (off+q.2) q.1) l)[i]?=if off+k≤i∧i<off+k+xs.length∧i<l.size then xs[i - off - k]? else l[i]?
 | [],k,l,i=>by simp;omega
 | x::xs,k,l,i=>by
  rw [List.zipIdx_cons,List.foldl_cons,zz off xs (k+1)]
  simp only [Array.size_setIfInBounds,List.length_cons]
  by_cases h1:off+(k+1)≤i∧i<off+(k+1)+xs.length∧i<l.size
  ·rw [if_pos h1,if_pos (by omega)]
   rw [show i - off - k=(i - off - (k+1))+1 from by omega,List.getElem?_cons_succ]
  ·rw [if_neg h1]
   rw [Array.getElem?_setIfInBounds]
   by_cases h2:off+k=i
   ·subst h2
    by_cases h3:off+k<l.size
    ·rw [if_pos rfl,if_pos h3,if_pos (by omega)]
     simp
    ·rw [if_pos rfl,if_neg h3,if_neg (by omega)]
     simp;omega
   ·rw [if_neg h2,if_neg (by omega)]
def Gb (off:Nat) (xs:Array Value) (l:List Value) (h:off+xs.size≤l.length):(xs.zipIdx.foldl (fun cs (q:Value×Nat)=>cs.setIfInBounds (off+q.2) q.1) l.toArray)=(fI l off xs.toList).toArray:=by
 have e:xs.zipIdx.foldl (fun cs (q:Value×Nat)=>cs.setIfInBounds (off+q.2) q.1) l.toArray=(xs.toList.zipIdx).foldl (fun cs q=>cs.setIfInBounds (off+q.2) q.1) l.toArray:=by
  rw [← Array.foldl_toList,Array.toList_zipIdx]
 rw [e]
 apply Array.ext_getElem?
 intro i
 rw [zz]
 simp only [fI,List.size_toArray,Array.length_toList,List.getElem?_toArray]
 rcases Nat.lt_or_ge i off with h1 | h1
 ·rw [if_neg (by omega),List.append_assoc,List.getElem?_append_left (by simp;omega),List.getElem?_take,if_pos h1]
 ·rcases Nat.lt_or_ge i (off+xs.size) with h2 | h2
  ·rw [if_pos (by omega),List.append_assoc,List.getElem?_append_right (by simp;omega),List.getElem?_append_left (by simp;omega)]
   simp only [List.length_take]
   congr 1
   omega
  ·rw [if_neg (by omega),List.getElem?_append_right (by simp;omega),List.getElem?_drop]
   simp only [List.length_append,List.length_take,Array.length_toList]
   congr 1
   omega
def pG {β ρ} (places:List (Nat×Nat)) (place:Nat→Option (Nat×Nat)) (hplace:∀i q,nth places i=some q→place i=some q) {t:List T} {a:Act} (hr:ak β ρ t a.tmps.toList):∀(parts:List (Nat×Operand)) (cs cs':List T) (l:List Value),ak β ρ cs l→nX places cs (parts.map fun q=>(q.1,ev t q.2))=some cs'→
  ∃l',Instr.fill place l.toArray (parts.map fun q=>(q.1,a.eval q.2))=some l'.toArray∧ak β ρ cs' l'
 | [],cs,cs',l,h,hf=>by cases hf;exact ⟨l,rfl,h⟩
 | (i,x)::parts,cs,cs',l,h,hf=>by
  simp only [List.map_cons,nX] at hf
  cases hp:nth places i with
  | none=>rw [hp] at hf;cases hf
  | some q=>
   obtain ⟨off,size⟩:=q
   rw [hp] at hf
   simp only [] at hf
   cases hxs:jf (ev t x) with
   | none=>rw [hxs] at hf;cases hf
   | some xs=>
   rw [hxs] at hf
   simp only [] at hf
   cases hb:(xs.length==size&&Nat.ble (off+size) cs.length) with
   | false=>rw [hb] at hf;cases hf
   | true=>
    rw [hb] at hf
    simp only [Bool.and_eq_true,beq_iff_eq,Nat.ble_eq] at hb
    have hc:=(hr.ev x).cells hxs
    have hn:=hc.1
    simp only [Array.length_toList] at hn
    obtain ⟨l',hl',hrl⟩:=pG places place hplace hr parts _ cs' _ (h.fI hc off) hf
    refine ⟨l',?_,hrl⟩
    have hz:=h.1
    simp only [List.map_cons,Instr.fill,hplace _ _ hp]
    rw [if_neg (by simp;omega)]
    rw [Gb off _ _ (by omega)]
    exact hl'
def Cy {α:Type} {P:Program} {s:Sem α} {w:World} {v:α} (h:s.run P w=.ok v w) {β:Type} (f:α→β):(do let x ← s;pure (f x)).run P w=.ok (f v) w:=by
 simp [Sem.run_bind,h]
def nU {f:Array TypeId→TypeId→Array Value→Sem Value} {tys:Array TypeId} {ty:TypeId} {args:Array Operand} {t:List T} {β ρ} {a:Act} {k:Value→Tree} (hr:ak β ρ t a.tmps.toList)
  (h:(um f tys ty (args.toList.map (ev t)) k).aD P W G Q ds):∃(vs:List Value) (v:Value),args.map a.eval=vs.toArray∧(∀w,(do pure (.value (← f tys ty (List.toArray vs))):Sem Next).run P w=.ok (.value v) w)∧(k v).aD P W G Q ds:=by
 unfold um at h
 cases hv:aH (args.toList.map (ev t)) with
 | none=>rw [hv] at h;exact h.elim
 | some vs=>
  rw [hv] at h
  obtain ⟨v,hv',h⟩:=h
  have hargs:ak β ρ (args.toList.map (ev t)) (args.toList.map a.eval):=by
   refine ⟨by simp,fun i x hx=>?_⟩
   rw [List.getElem?_map] at hx ⊢
   cases hi:args.toList[i]? with
   | none=>rw [hi] at hx;cases hx
   | some q=>rw [hi] at hx;cases hx;exact ⟨_,rfl,hr.ev q⟩
  have e:=aE _ _ _ hv hargs
  exact ⟨vs,v,by apply Array.toList_inj.1;simpa using e,hv',h⟩
def step_take (hE:E.Ok P) {o:Oper} (ho:takes E.quiet o=true) {m0 m:M} {t:List T} {β0 ρ0 β ρ} {a:Act} {w:World} {k:M→List T→T→Tree}
  (hβ:∃β1,β=β0++β1) (hρ:∃ρ1,ρ=ρ0++ρ1) (hl0:β0.length=m0.own.length) {w0:World} (hm0:Mem W G m0 β0 ρ0 w0) (hm:Mem W G m β ρ w) (hr:ak β ρ t a.tmps.toList) (h:(step0 E o m0 m t k).aD P W G Q ds) :
  ∃x y,(k m t x).aD P W G Q ds∧Rel β ρ x y∧∀w',(reads o=true→Mem W G m0 β0 ρ0 w')→(execOp a.eval o).run P w'=.ok (.value y) w':=by
 obtain ⟨dst,op,ty',pos,after,guard⟩:=o
 cases op with
 | move x=>exact ⟨_,_,h,hr.ev x,fun w' _=>by simp [execOp]⟩
 | assign x=>exact ⟨_,_,h,hr.ev x,fun w' _=>by simp [execOp]⟩
 | pick c x y=>
  have hc:=hr.ev c
  simp only [step0] at h
  cases hx:ev t c with
  | v u=>
   rw [hx] at h hc
   cases u with
   | bool b=>
    have hc:a.eval c=.bool b:=hc
    rcases C6 h with ⟨rfl,h⟩ | ⟨rfl,h⟩
    ·exact ⟨_,_,h,hr.ev x,fun w' _=>by simp [execOp,hc,asBool]⟩
    ·exact ⟨_,_,h,hr.ev y,fun w' _=>by simp [execOp,hc,asBool]⟩
   | _=>exact h.elim
  | _=>rw [hx] at h;exact h.elim
 | fieldAddr s x f=>
  have hx:=hr.ev x
  simp only [step0] at h
  cases hd:lk E.off (s,f) with
  | none=>rw [hd] at h;exact h.elim
  | some d=>
   rw [hd] at h
   cases e:ev t x with
   | p b off=>
    rw [e] at h hx
    obtain ⟨g,hg,hp⟩:=hx
    refine ⟨_,.pointer (some ⟨g,off+d,none⟩),h,⟨g,hg,rfl⟩,fun w' _=>?_⟩
    have:=hE.off s f d hd ⟨g,off,none⟩ w'
    simp only [execOp,hp,Sem.run_bind,this,Addr.add_lit]
    rfl
   | v u=>
    rw [e] at h hx
    cases u with
    | pointer q=>
     cases q with
     | none=>exact h.elim
     | some q=>
      have hx:a.eval x=_:=hx
      refine ⟨_,_,h,rfl,fun w' _=>?_⟩
      have:=hE.off s f d hd q w'
      simp only [execOp,hx,Sem.run_bind,this]
      rfl
    | _=>exact h.elim
   | q i o=>
    rw [e] at h hx
    obtain ⟨v,g,hv,hg,hp⟩:=hx
    refine ⟨_,.pointer (some ⟨g,o+d,none⟩),h,⟨v,g,hv,hg,rfl⟩,fun w' _=>?_⟩
    have:=hE.off s f d hd ⟨g,o,none⟩ w'
    simp only [execOp,hp,Sem.run_bind,this,Addr.add_lit]
    rfl
   | _=>rw [e] at h;exact h.elim
 | extract x i=>
  have hx:=hr.ev x
  simp only [step0] at h
  cases e:ev t x with
  | v u=>
   rw [e] at h hx
   cases u with
   | tuple vs=>
    have hx:a.eval x=_:=hx
    simp only [] at h
    cases hv:vs.toList[i]? with
    | none=>rw [hv] at h;exact h.elim
    | some v=>
     rw [hv] at h
     refine ⟨_,v,h,rfl,fun w' _=>?_⟩
     have hv':vs[i]?=some v:=by simpa using hv
     simp [execOp,hx,Instr.extract,hv']
   | _=>exact h.elim
  | _=>rw [e] at h;exact h.elim
 | unOp op ty x=>
  have hx:=hr.ev x
  cases op with
  | not=>
   simp only [step0] at h
   cases e:ev t x with
   | v u=>
    rw [e] at h hx
    cases u with
    | bool b=>
     have hx:a.eval x=_:=hx
     exact ⟨_,_,h,rfl,fun w' _=>by simp [execOp,hx,Op.unary]⟩
    | _=>exact h.elim
   | _=>rw [e] at h;exact h.elim
  | neg=>
   simp only [step0] at h
   cases e:ev t x with
   | v u=>
    rw [e] at h hx
    have hx:a.eval x=u:=hx
    have gen:(Tree.prim (do pure (.value (← Op.unary .neg u))) (fun v=>k m t (.v v))).aD P W G Q ds→∃x1 y1,(k m t x1).aD P W G Q ds∧Rel β ρ x1 y1∧∀w',(reads ⟨dst,.unOp .neg ty x,ty',pos,after,guard⟩=true→Mem W G m0 β0 ρ0 w')→(execOp a.eval ⟨dst,.unOp .neg ty x,ty',pos,after,guard⟩).run P w'=.ok (.value y1) w':=by
     rintro ⟨v,hv,h⟩
     refine ⟨_,v,h,rfl,fun w' _=>?_⟩
     have:=hv w'
     simp only [execOp,hx]
     simpa [Sem.run_bind] using this
    cases u with
    | int k1 i1=>
     cases k1 with
     | i64=>
      obtain ⟨hb,h⟩:=h
      refine ⟨_,_,h,rfl,fun w' _=>?_⟩
      simp [execOp,hx,Op.unary,Op.intArith,IntWalk.i64_in _ hb]
     | _=>exact gen h
    | _=>exact gen h
   | _=>rw [e] at h;exact h.elim
  | _=>exact h.elim
 | field ty2 x fi=>
  have hx:=hr.ev x
  simp only [step0] at h
  cases e:ev t x with
  | v u=>
   rw [e] at h hx
   have hx:a.eval x=u:=hx
   obtain ⟨v,hv,h⟩:=h
   refine ⟨_,v,h,rfl,fun w' _=>?_⟩
   have:=hv w'
   simp only [execOp,hx]
   simpa [Sem.run_bind] using this
  | _=>rw [e] at h;exact h.elim
 | convert src dst2 x=>
  have hx:=hr.ev x
  simp only [step0] at h
  cases e:ev t x with
  | v u=>
   rw [e] at h hx
   have hx:a.eval x=u:=hx
   obtain ⟨v,hv,h⟩:=h
   refine ⟨_,v,h,rfl,fun w' _=>?_⟩
   have:=hv w'
   simp only [execOp,hx]
   simpa [Sem.run_bind] using this
  | _=>rw [e] at h;exact h.elim
 | load ty x=>
  have hx:=hr.ev x
  simp only [step0] at h
  cases e:ev t x with
  | p b off=>
   rw [e] at h hx
   obtain ⟨g,hg,hp⟩:=hx
   simp only [] at h
   cases hc:m0.cells b with
   | none=>rw [hc] at h;exact h.elim
   | some q=>
    obtain ⟨cs,e0⟩:=q
    rw [hc] at h
    have hc':m0.own[b]?=some (some (cs,e0)):=by
     unfold M.cells at hc
     cases h0:m0.own[b]? with
     | none=>rw [h0] at hc;cases hc
     | some z=>rw [h0] at hc;simp at hc;rw [hc]
    have hlt:b<m0.own.length:=(List.getElem?_eq_some_iff.1 hc').1
    have hg0:β0[b]?=some g:=by
     obtain ⟨β1,rfl⟩:=hβ
     rwa [List.getElem?_append_left (by omega)] at hg
    have cell:∀w',Mem W G m0 β0 ρ0 w'→∃l:List Value,ak β0 ρ0 cs l∧∀(j:Nat) (u:Value),l[j]?=some u→w'.cell? ⟨g,j,none⟩=some u:=by
     intro w' hw'
     obtain ⟨g',l,hg',hw,hl,_⟩:=hw'.own b cs e0 hc'
     rw [hg0] at hg'
     obtain rfl:=Option.some.inj hg'
     exact ⟨l,hl,fun j u hu=>by simp [World.cell?,hw,hu]⟩
    have lift:∀{x y},Rel β0 ρ0 x y→Rel β ρ x y:=by
     obtain ⟨β1,rfl⟩:=hβ
     obtain ⟨ρ1,rfl⟩:=hρ
     intro x y h
     exact (h.rQ β1).iF ρ1
    cases ha:lk E.agg ty with
    | none=>rw [ha] at h;exact h.elim
    | some n?=>
     cases n? with
     | none=>
      rw [ha] at h
      simp only [eU] at h
      cases hn:cs[off]? with
      | none=>rw [hn] at h;exact h.elim
      | some x1=>
       rw [hn] at h
       have hany:x1≠.any:=by rintro rfl;exact h.elim
       have h:(k m t x1).aD P W G Q ds:=by cases x1 <;> first | exact h | exact absurd rfl hany
       obtain ⟨l,hl,hcell⟩:=cell w0 hm0
       obtain ⟨y,hy,hyr⟩:=hl.2 off x1 hn
       refine ⟨x1,y,h,lift hyr,fun w' hw'=>?_⟩
       obtain ⟨l',hl',hcell'⟩:=cell w' (hw' rfl)
       obtain ⟨y',hy',hyr'⟩:=hl'.2 off x1 hn
       have hc':=hcell' off y' hy'
       rw [Rel.QG hany hyr' hyr] at hc'
       have h1:=hE.agg1 ty ha ⟨g,off,none⟩ w'
       simp only [execOp,hp,Sem.run_bind,Instr.loadAt,Instr.sureAddr,Sem.run_pure,Result.andThen_ok,h1]
       simp [load,Sem.run,hc']
     | some n=>
      rw [ha] at h
      simp only [] at h
      cases hv:aH ((cs.drop off).take n) with
      | none=>rw [hv] at h;exact h.elim
      | some vs=>
       rw [hv] at h
       have hlen:vs.length=n:=by
        cases hb:vs.length==n with
        | true=>simpa using hb
        | false=>simp only [hb] at h;exact h.elim
       have h:(k m t (.v (.agg (List.toArray vs)))).aD P W G Q ds:=by
        have hb:(vs.length==n)=true:=by simpa using hlen
        simpa only [hb,cond_true] using h
       refine ⟨_,_,h,rfl,fun w' hw'=>?_⟩
       obtain ⟨l',hl',hcell'⟩:=cell w' (hw' rfl)
       have e1:=aE _ _ _ hv ((hl'.drop off).take n)
       have h1:=hE.aggN ty n ha ⟨g,off,none⟩ w' vs hlen (fun j u hj=>by
        rw [← e1,List.getElem?_take] at hj
        split at hj
        ·rw [List.getElem?_drop] at hj
         rw [eW]
         exact hcell' _ _ hj
        ·cases hj)
       simp only [execOp,hp,Sem.run_bind,Instr.loadAt,Instr.sureAddr,Sem.run_pure,Result.andThen_ok,h1]
  | v u=>
   rw [e] at h hx
   cases u with
   | pointer q=>
    cases q with
    | none=>exact h.elim
    | some q=>
     have hx:a.eval x=_:=hx
     obtain ⟨v,hv,h⟩:=h
     refine ⟨_,v,h,rfl,fun w' hw'=>?_⟩
     have:=hv _ _ w' (hw' rfl)
     simp only [execOp,hx,Sem.run_bind,Instr.loadAt,Instr.sureAddr,Sem.run_pure,Result.andThen_ok,this]
   | _=>exact h.elim
  | q i off=>
   rw [e] at h hx
   obtain ⟨v,g,hv,hg,hp⟩:=hx
   simp only [] at h
   cases hc:(m0.rows[i]?).join with
   | none=>rw [hc] at h;exact h.elim
   | some r=>
    rw [hc] at h
    have hc':=join_eq hc
    have hlt:i<ρ0.length:=by rw [hm0.rl];exact (List.getElem?_eq_some_iff.1 hc').1
    have hv0:ρ0[i]?=some v:=by
     obtain ⟨ρ1,rfl⟩:=hρ
     rwa [List.getElem?_append_left hlt] at hv
    have cell:∀w',Mem W G m0 β0 ρ0 w'→∀(j:Nat) (u:Value),r.xs[j]?=some u→w'.cell? ⟨g,j,none⟩=some u:=by
     intro w' hw' j u hu
     obtain ⟨v',hv',ho⟩:=hw'.row i r hc'
     rw [hv0] at hv'
     cases hv'
     have:=ho.cells hg j u hu
     rwa [eW,Nat.zero_add] at this
    cases ha:lk E.agg ty with
    | none=>rw [ha] at h;exact h.elim
    | some n?=>
     cases n? with
     | none=>
      rw [ha] at h
      obtain ⟨vs,hlen,hat,h⟩:=h
      cases vs with
      | nil=>exact h.elim
      | cons u l=>
       cases l with
       | cons _ _=>exact h.elim
       | nil=>
        refine ⟨_,u,h,rfl,fun w' hw'=>?_⟩
        have h1:=hE.agg1 ty ha ⟨g,off,none⟩ w'
        have h2:=cell w' (hw' rfl) off u (by simpa using hat 0 u rfl)
        simp only [execOp,hp,Sem.run_bind,Instr.loadAt,Instr.sureAddr,Sem.run_pure,Result.andThen_ok,h1]
        simp [load,Sem.run,h2]
     | some n=>
      rw [ha] at h
      obtain ⟨vs,hlen,hat,h⟩:=h
      refine ⟨_,_,h,rfl,fun w' hw'=>?_⟩
      have h1:=hE.aggN ty n ha ⟨g,off,none⟩ w' vs hlen (fun j u hj=>by
       rw [eW]
       exact cell w' (hw' rfl) _ u (hat j u hj))
      simp only [execOp,hp,Sem.run_bind,Instr.loadAt,Instr.sureAddr,Sem.run_pure,Result.andThen_ok,h1]
  | _=>rw [e] at h;exact h.elim
 | indexAddr ty x i=>
  have hx:=hr.ev x
  have hi:=hr.ev i
  simp only [step0] at h
  cases hrow:lk E.row ty with
  | none=>
   rw [hrow] at h
   cases e:ev t x with
   | v u=>
    cases e2:ev t i with
    | v u2=>
     rw [e] at h hx
     rw [e2] at h hi
     have hx:a.eval x=u:=hx
     have hi:a.eval i=u2:=hi
     obtain ⟨v,hv,h⟩:=h
     exact ⟨_,v,h,rfl,fun w' _=>by simp only [execOp,hx,hi];exact hv w'⟩
    | _=>rw [e,e2] at h;exact h.elim
   | p b o1=>
    rw [e] at h hx
    cases e2:ev t i with
    | v u2=>
     rw [e2] at h hi
     cases u2 with
     | int k2 j=>
      cases k2 with
      | i64=>
       simp only [] at h
       cases ha:lk E.arr ty with
       | none=>rw [ha] at h;exact h.elim
       | some q=>
        obtain ⟨n,size⟩:=q
        rw [ha] at h
        obtain ⟨⟨h0,h1⟩,h⟩:=h
        obtain ⟨g,hg,hp⟩:=hx
        have hi:a.eval i=_:=hi
        refine ⟨_,_,h,⟨g,hg,rfl⟩,fun w' _=>?_⟩
        have:=hE.arr ty n size ha ⟨g,o1,none⟩ j w' h0 h1
        rw [eW] at this
        simp only [execOp,hp,hi,Sem.run_bind,this,Result.andThen_ok,Sem.run_pure]
      | _=>exact h.elim
     | _=>exact h.elim
    | _=>rw [e2] at h;exact h.elim
   | _=>rw [e] at h;exact h.elim
  | some q=>
   obtain ⟨el,size,bytes⟩:=q
   rw [hrow] at h
   obtain ⟨hu,info,z,hinfo,hz,hsize,_,_,_⟩:=hE.row ty el size bytes hrow
   cases e:ev t x with
   | v u=>
    rw [e] at h hx
    cases u with
    | slice ad n c=>
     cases e2:ev t i with
     | v u2=>
      rw [e2] at h hi
      cases u2 with
      | int k j=>
       cases k with
       | i64=>
        obtain ⟨⟨h0,h1,h2⟩,h⟩:=h
        have hx:a.eval x=_:=hx
        have hi:a.eval i=_:=hi
        cases ad with
        | none=>simp at h2
        | some ad=>
         refine ⟨_,_,h,rfl,fun w' _=>?_⟩
         simp [execOp,hx,hi,Instr.indexAt,asIntOf,run_underlying hu,sizeOf,typeInfo,hinfo,hsize,h0,h1]
       | _=>exact h.elim
      | _=>exact h.elim
     | _=>rw [e2] at h;exact h.elim
    | _=>exact h.elim
   | r i1=>
    rw [e] at h hx
    cases e2:ev t i with
    | v u2=>
     rw [e2] at h hi
     cases u2 with
     | int k j=>
      cases k with
      | i64=>
       simp only [] at h
       cases hc:(m.rows[i1]?).join with
       | none=>rw [hc] at h;exact h.elim
       | some r=>
        rw [hc] at h
        simp only [] at h
        cases hb:(r.size==size) with
        | false=>rw [hb] at h;exact h.elim
        | true=>
         rw [hb] at h
         obtain ⟨⟨h0,h1⟩,h⟩:=h
         have hi:a.eval i=_:=hi
         obtain ⟨v,hv,ho⟩:=hm.row i1 r (join_eq hc)
         have hx:ρ[i1]?=some (a.eval x):=hx
         rw [hv] at hx
         have hx:=Option.some.inj hx
         rcases ho.2 with ⟨_,hn0⟩ | ⟨g,cap,cur,rfl,hrest⟩
         ·omega
         ·refine ⟨_,.pointer (some ⟨g,j.toNat*size,none⟩),h,⟨_,g,hv,rfl,rfl⟩,fun w' _=>?_⟩
          simp [execOp,← hx,hi,Instr.indexAt,asIntOf,run_underlying hu,sizeOf,typeInfo,hinfo,hsize,h0,h1,eW]
      | _=>exact h.elim
     | _=>exact h.elim
    | _=>rw [e2] at h;exact h.elim
   | _=>rw [e] at h;exact h.elim
 | index ty x i=>
  have hx:=hr.ev x
  have hi:=hr.ev i
  simp only [step0] at h
  cases e:ev t x with
  | v u=>
   cases e2:ev t i with
   | v u2=>
    rw [e] at h hx
    rw [e2] at h hi
    have hx:a.eval x=u:=hx
    have hi:a.eval i=u2:=hi
    obtain ⟨v,hv,h⟩:=h
    exact ⟨_,v,h,rfl,fun w' _=>by simp only [execOp,hx,hi];exact hv w'⟩
   | _=>rw [e,e2] at h;exact h.elim
  | _=>rw [e] at h;exact h.elim
 | makeFunc f first caps=>
  simp only [step0] at h
  cases f with
  | func g=>
   simp only [] at h
   cases hf:first.toList with
   | nil=>
    rw [hf] at h
    cases hp:p6 (caps.toList.map (ev t)) with
    | none=>rw [hp] at h;exact h.elim
    | some l=>
     rw [hp] at h
     refine ⟨_,.func (.func g) #[] (caps.map a.eval),h,?_,fun w' _=>?_⟩
     ·refine ⟨caps.toList.map a.eval,by cases caps;simp,?_,?_⟩
      ·rw [← (mH _ _ hp).1];simp
      ·intro j c hj
       have hc:=(mH _ _ hp).2 j c hj
       rw [List.getElem?_map] at hc
       cases hcj:caps.toList[j]? with
       | none=>rw [hcj] at hc;cases hc
       | some q=>
        rw [hcj] at hc
        have hq:=hr.ev q
        simp only [Option.map_some,Option.some.injEq] at hc
        rw [hc] at hq
        exact ⟨a.eval q,by rw [List.getElem?_map,hcj];rfl,hq⟩
     ·have:first = #[]:=by cases first;simp at hf;rw [hf]
      simp [execOp,this,Instr.makeFunc]
   | cons x l=>
    rw [hf] at h
    cases hp:p6 (caps.toList.map (ev t)) with
    | none=>rw [hp] at h;exact h.elim
    | some q=>
     rw [hp] at h
     cases q with
     | cons _ _=>exact h.elim
     | nil=>
      simp only [] at h
      cases hv:aH ((x::l).map (ev t)) with
      | none=>rw [hv] at h;exact h.elim
      | some vs=>
       rw [hv] at h
       refine ⟨_,.func (.func g) (List.toArray vs) #[],h,rfl,fun w' _=>?_⟩
       have h1:caps = #[]:=by
        have:=(mH _ _ hp).1
        simp at this
        exact this
       rw [← hf] at hv
       have h2:first.map a.eval=List.toArray vs:=by
        have hr':ak β ρ (first.toList.map (ev t)) (first.toList.map a.eval):=by
         refine ⟨by simp,fun i x hx=>?_⟩
         rw [List.getElem?_map] at hx ⊢
         cases hi:first.toList[i]? with
         | none=>rw [hi] at hx;cases hx
         | some q=>rw [hi] at hx;cases hx;exact ⟨_,rfl,hr.ev q⟩
        have:=aE _ _ _ hv hr'
        rw [← this]
        cases first;simp
       simp [execOp,h1,h2,Instr.makeFunc]
  | method n=>
   simp only [] at h
   cases hv:aH (first.toList.map (ev t)) with
   | none=>rw [hv] at h;exact h.elim
   | some vs=>
    rw [hv] at h
    cases hc:caps.toList with
    | cons _ _=>rw [hc] at h;exact h.elim
    | nil=>
     rw [hc] at h
     refine ⟨_,.func (.method n) (List.toArray vs) #[],h,rfl,fun w' _=>?_⟩
     have h1:caps = #[]:=by cases caps;simp at hc;rw [hc]
     have h2:first.map a.eval=List.toArray vs:=by
      have hr':ak β ρ (first.toList.map (ev t)) (first.toList.map a.eval):=by
       refine ⟨by simp,fun i x hx=>?_⟩
       rw [List.getElem?_map] at hx ⊢
       cases hi:first.toList[i]? with
       | none=>rw [hi] at hx;cases hx
       | some q=>rw [hi] at hx;cases hx;exact ⟨_,rfl,hr.ev q⟩
      have:=aE _ _ _ hv hr'
      rw [← this]
      cases first;simp
     simp [execOp,h1,h2,Instr.makeFunc]
  | _=>exact h.elim
 | nilCheck x=>
  have hx:=hr.ev x
  simp only [step0] at h
  cases e:ev t x with
  | v u=>
   rw [e] at h hx
   have hx:a.eval x=u:=hx
   obtain ⟨v,hv,h⟩:=h
   refine ⟨_,v,h,rfl,fun w' _=>?_⟩
   have:=hv w'
   simp only [execOp] at this ⊢
   rw [hx]
   exact this
  | _=>rw [e] at h;exact h.elim
 | lookup ty x i b=>
  have hx:=hr.ev x
  have hi:=hr.ev i
  simp only [step0] at h
  cases e:ev t x with
  | v u=>
   rw [e] at h hx
   have hx:a.eval x=u:=hx
   cases e2:ev t i with
   | v j=>
    rw [e2] at h hi
    have hi:a.eval i=j:=hi
    obtain ⟨v,hv,h⟩:=h
    refine ⟨_,v,h,rfl,fun w' hm'=>?_⟩
    simp only [execOp,hx,hi]
    exact hv _ _ w' (hm' rfl)
   | _=>rw [e2] at h;exact h.elim
  | _=>rw [e] at h;exact h.elim
 | build ty parts=>
  simp only [step0] at h
  cases hs:lk E.str ty with
  | none=>rw [hs] at h;exact h.elim
  | some q=>
   obtain ⟨cs,places⟩:=q
   rw [hs] at h
   simp only [] at h
   cases hf:nX places cs (parts.toList.map fun q=>(q.1,ev t q.2)) with
   | none=>rw [hf] at h;exact h.elim
   | some cs'=>
    rw [hf] at h
    simp only [] at h
    cases hv:aH cs' with
    | none=>rw [hv] at h;exact h.elim
    | some vs=>
     rw [hv] at h
     obtain ⟨zc,hz,hb⟩:=hE.str ty cs places hs
     have hz':ak β ρ cs zc:=by
      have:=(hz.rQ β).iF ρ
      simpa using this
     obtain ⟨l',hl',hrl⟩:=pG (β:=β) (ρ:=ρ) places (nth places) (fun _ _ h=>h) (a:=a) (t:=t) hr parts.toList cs cs' zc hz' hf
     have e1:=aE _ _ _ hv hrl
     subst e1
     exact ⟨_,_,h,rfl,fun w' _=>by
      have:=hb (parts.map fun q=>(q.1,a.eval q.2)) l'.toArray (by simpa using hl') w'
      simp only [execOp,Sem.run_bind,this]
      rfl⟩
 | makeInterface ty x=>
  have hx:=hr.ev x
  simp only [step0] at h
  cases e:ev t x with
  | v u=>
   rw [e] at h hx
   have hx:a.eval x=u:=hx
   obtain ⟨v,hv,h⟩:=h
   exact ⟨_,v,h,rfl,fun w' _=>by simp only [execOp,hx];exact hv w'⟩
  | _=>rw [e] at h;exact h.elim
 | slice ty x lo hi mx=>
  have hqt:E.quiet=true:=ho
  have hx:=hr.ev x
  cases mx with
  | some _=>exact h.elim
  | none=>
  simp only [step0,hqt,Bool.not_true,Bool.and_false,cond_false] at h
  cases e:ev t x with
  | v u=>
   rw [e] at h hx
   have hx:a.eval x=u:=hx
   cases lo with
   | none=>
    cases hi with
    | none=>exact h.elim
    | some b=>
     simp only [] at h
     have hb:=hr.ev b
     cases eb:ev t b with
     | v ub=>
      rw [eb] at h hb
      have hb:a.eval b=ub:=hb
      obtain ⟨v,hv,h⟩:=h
      exact ⟨_,v,h,rfl,fun w' _=>by simp only [execOp,hx,Option.map_some,Option.map_none,hb];exact hv w'⟩
     | _=>rw [eb] at h;exact h.elim
   | some b=>
    cases hi with
    | some _=>exact h.elim
    | none=>
     simp only [] at h
     have hb:=hr.ev b
     cases eb:ev t b with
     | v ub=>
      rw [eb] at h hb
      have hb:a.eval b=ub:=hb
      obtain ⟨v,hv,h⟩:=h
      exact ⟨_,v,h,rfl,fun w' _=>by simp only [execOp,hx,Option.map_some,Option.map_none,hb];exact hv w'⟩
     | _=>rw [eb] at h;exact h.elim
  | r i=>
   rw [e] at h
   cases lo with
   | some lb=>
    cases hi with
    | some _=>exact h.elim
    | none=>
     simp only [] at h
     split at h <;> first | exact h.elim | (rw [hqt] at h;simp only [Bool.not_true,Bool.and_false,cond_false] at h;exact h.elim)
   | none=>
    cases hi with
    | none=>exact h.elim
    | some b=>
     simp only [] at h
     split at h <;> first | exact h.elim | (rw [hqt] at h;simp only [Bool.not_true,Bool.and_false,cond_false] at h;exact h.elim)
  | _=>rw [e] at h;exact h.elim
 | binOp op ty x y z=>
  have hx:=hr.ev x
  have hy:=hr.ev y
  simp only [step0] at h
  cases e:ev t x with
  | v u=>
   rw [e] at h hx
   cases e2:ev t y with
   | v u2=>
    rw [e2] at h hy
    have hx:a.eval x=u:=hx
    have hy:a.eval y=u2:=hy
    have gen:(Tree.prim (do eqGuard op ty x y u u2;pure (.value (← binOp op ty u u2))) (fun v=>k m t (.v v))).aD P W G Q ds→∃x1 y1,(k m t x1).aD P W G Q ds∧Rel β ρ x1 y1∧∀w',(reads ⟨dst,.binOp op ty x y z,ty',pos,after,guard⟩=true→Mem W G m0 β0 ρ0 w')→(execOp a.eval ⟨dst,.binOp op ty x y z,ty',pos,after,guard⟩).run P w'=.ok (.value y1) w':=by
     rintro ⟨v,hv,h⟩
     refine ⟨_,v,h,rfl,fun w' _=>?_⟩
     have:=hv w'
     simp only [execOp,hx,hy]
     simpa [Sem.run_bind] using this
    cases u with
    | int k1 i1=>
     cases k1 with
     | i64=>
      cases u2 with
      | int k2 i2=>
       cases k2 with
       | i64=>
        cases htw:E.turns <;> cases op <;> simp only [yO,GN,htw,cond_true,cond_false] at h <;> first
         | exact gen h
         | (refine ⟨_,_,h,rfl,fun w' _=>?_⟩;simp [execOp,hx,hy,eqGuard,binOp,Op.intArith];done)
         | (obtain ⟨hb,h⟩:=h;refine ⟨_,_,h,rfl,fun w' _=>?_⟩;simp [execOp,hx,hy,eqGuard,binOp,Op.intArith,IntWalk.i64_in _ hb])
         | exact h.elim
         | (refine ⟨_,_,h,rfl,fun w' _=>?_⟩;simp [execOp,hx,hy,eqGuard,binOp,Op.intCmp])
       | _=>exact gen h
      | _=>exact gen h
     | _=>exact gen h
    | _=>exact gen h
   | _=>rw [e2] at h;cases u <;> first | exact h.elim | (rename_i k n;cases k <;> exact h.elim)
  | _=>rw [e] at h;exact h.elim
 | call c=>
  obtain ⟨callee,args,argTypes⟩:=c
  cases callee with
  | builtin b=>
   cases b with
   | len=>
    simp only [step0] at h
    cases hl:args.toList with
    | nil=>rw [hl] at h;exact h.elim
    | cons x l=>
     cases l with
     | cons _ _=>rw [hl] at h;exact h.elim
     | nil=>
      cases hty:argTypes.toList with
      | nil=>rw [hl,hty] at h;exact h.elim
      | cons ty l2=>
       cases l2 with
       | cons _ _=>rw [hl,hty] at h;exact h.elim
       | nil=>
        rw [hl,hty] at h
        obtain rfl:args = #[x]:=by cases args;simp at hl;rw [hl]
        obtain rfl:argTypes = #[ty]:=by cases argTypes;simp at hty;rw [hty]
        have hx:=hr.ev x
        simp only [] at h
        have slc:∀b n c,a.eval x=.slice b n c→(lk E.row ty).isSome=true→∀w',(execOp a.eval ⟨dst,.call ⟨.builtin .len,#[x],#[ty]⟩,ty',pos,after,guard⟩).run P w'=.ok (.value (.int .i64 n)) w':=by
         intro b n c he hs w'
         obtain ⟨⟨el,size,bytes⟩,hq⟩:=Option.isSome_iff_exists.1 hs
         have hu:=(hE.row ty el size bytes hq).1
         simp [execOp,resolve,invoke,builtin,he,Builtin.len_,run_underlying hu,goInt]
        have pk:∀u,a.eval x=u→(Tree.peek (do pure (.value (← Builtin.len_ #[ty] ty' #[u]))) m0 (fun v=>k m t (.v v))).aD P W G Q ds→∃x_1 y,(k m t x_1).aD P W G Q ds∧Rel β ρ x_1 y∧∀w',(reads ⟨dst,.call ⟨.builtin .len,#[x],#[ty]⟩,ty',pos,after,guard⟩=true→Mem W G m0 β0 ρ0 w')→(execOp a.eval ⟨dst,.call ⟨.builtin .len,#[x],#[ty]⟩,ty',pos,after,guard⟩).run P w'=.ok (.value y) w':=by
         rintro u hx ⟨v,hv,h⟩
         refine ⟨_,v,h,rfl,fun w' hm'=>?_⟩
         have:=hv _ _ w' (hm' rfl)
         simp only [execOp,resolve,invoke,builtin,Sem.run_bind,Sem.run_pure,Result.andThen_ok,List.map_toArray,List.map_cons,List.map_nil,hx] at this ⊢
         exact this
        cases e:ev t x with
        | v u=>
         rw [e] at h hx
         have hx:a.eval x=u:=hx
         cases u with
         | slice b n c=>
          simp only [yq] at h
          cases hq:lk E.row ty with
          | none=>rw [hq] at h;exact pk _ hx h
          | some q=>rw [hq] at h;exact ⟨_,_,h,rfl,fun w' _=>slc b n c hx (by rw [hq];rfl) w'⟩
         | string b=>
          simp only [yq] at h
          cases hq:lk E.strs ty with
          | none=>rw [hq] at h;exact pk _ hx h
          | some q=>
           rw [hq] at h
           have hu:=hE.strs ty q hq
           exact ⟨_,_,h,rfl,fun w' _=>by simp [execOp,resolve,invoke,builtin,hx,Builtin.len_,run_underlying hu,goInt]⟩
         | _=>simp only [yq] at h;exact pk _ hx h
        | s b n=>
         rw [e] at h hx
         obtain ⟨g,hg,hx⟩:=hx
         simp only [yq] at h
         cases hq:lk E.row ty with
         | none=>rw [hq] at h;exact h.elim
         | some q=>rw [hq] at h;exact ⟨_,_,h,rfl,fun w' _=>slc _ _ _ hx (by rw [hq];rfl) w'⟩
        | r i=>
         rw [e] at h hx
         simp only [yq] at h
         cases hri:(m.rows[i]?).join with
         | none=>rw [hri] at h;exact h.elim
         | some r=>
          rw [hri] at h
          simp only [] at h
          cases hq:lk E.row ty with
          | none=>rw [hq] at h;exact h.elim
          | some q=>
           rw [hq] at h
           have hri':m.rows[i]?=some (some r):=by
            cases h0:m.rows[i]? with
            | none=>rw [h0] at hri;cases hri
            | some z=>rw [h0] at hri;simp at hri;rw [hri]
           obtain ⟨v,hv,ho⟩:=hm.row i r hri'
           have hx:ρ[i]?=some (a.eval x):=hx
           rw [hv] at hx
           have hx:=Option.some.inj hx
           obtain ⟨b,c,hbc⟩:∃b c,v=.slice b r.n c:=by
            rcases ho.2 with ⟨rfl,h0⟩ | ⟨g,cap,cur,rfl,_⟩
            ·exact ⟨none,0,by rw [h0]⟩
            ·exact ⟨_,_,rfl⟩
           exact ⟨_,_,h,rfl,fun w' _=>slc b r.n c (by rw [← hx,hbc]) (by rw [hq];rfl) w'⟩
        | _=>rw [e] at h;exact h.elim
   | cap=>
    simp only [step0] at h
    cases hl:args.toList with
    | nil=>rw [hl] at h;exact h.elim
    | cons x l=>
     cases l with
     | cons _ _=>rw [hl] at h;exact h.elim
     | nil=>
      cases hty:argTypes.toList with
      | nil=>rw [hl,hty] at h;exact h.elim
      | cons ty l2=>
       cases l2 with
       | cons _ _=>rw [hl,hty] at h;exact h.elim
       | nil=>
        rw [hl,hty] at h
        obtain rfl:args = #[x]:=by cases args;simp at hl;rw [hl]
        obtain rfl:argTypes = #[ty]:=by cases argTypes;simp at hty;rw [hty]
        have hx:=hr.ev x
        have h:(match ev t x,lk E.row ty with
         | .v (.slice _ _ c),some _=>k m t (.v (.int .i64 c))
         | _,_=>.bad "cap" : Tree).aD P W G Q ds:=h
        cases e:ev t x with
        | v u=>
         rw [e] at h hx
         have hx:a.eval x=u:=hx
         cases u with
         | slice b n c=>
          cases hq:lk E.row ty with
          | none=>rw [hq] at h;exact h.elim
          | some q=>
           rw [hq] at h
           obtain ⟨el,size,bytes⟩:=q
           have hu:=(hE.row ty el size bytes hq).1
           exact ⟨_,_,h,rfl,fun w' _=>by simp [execOp,resolve,invoke,builtin,hx,Builtin.cap_,run_underlying hu,goInt]⟩
         | _=>exact h.elim
        | _=>rw [e] at h;exact h.elim
   | max=>
    simp only [step0] at h
    cases hv:aH (args.toList.map (ev t)) with
    | none=>rw [hv] at h;exact h.elim
    | some vs=>
     rw [hv] at h
     obtain ⟨v,hv',h⟩:=h
     refine ⟨_,v,h,rfl,fun w' _=>?_⟩
     have hargs:ak β ρ (args.toList.map (ev t)) (args.toList.map a.eval):=by
      refine ⟨by simp,fun i x hx=>?_⟩
      rw [List.getElem?_map] at hx ⊢
      cases hi:args.toList[i]? with
      | none=>rw [hi] at hx;cases hx
      | some q=>rw [hi] at hx;cases hx;exact ⟨_,rfl,hr.ev q⟩
     have e:=aE _ _ _ hv hargs
     have:=hv' w'
     have e2:args.map a.eval=vs.toArray:=by apply Array.toList_inj.1;simpa using e
     simp only [execOp,resolve,invoke,builtin,Sem.run_bind,Sem.run_pure,Result.andThen_ok,e2]
     simpa [Sem.run_bind] using this
   | min=>
    simp only [step0] at h
    obtain ⟨vs,v,e2,hv',h⟩:=nU hr h
    refine ⟨_,v,h,rfl,fun w' _=>?_⟩
    have:=hv' w'
    simp only [execOp,resolve,invoke,builtin,Sem.run_bind,Sem.run_pure,Result.andThen_ok,e2]
    simpa [Sem.run_bind] using this
   | complex=>
    simp only [step0] at h
    obtain ⟨vs,v,e2,hv',h⟩:=nU hr h
    refine ⟨_,v,h,rfl,fun w' _=>?_⟩
    have:=hv' w'
    simp only [execOp,resolve,invoke,builtin,Sem.run_bind,Sem.run_pure,Result.andThen_ok,e2]
    simpa [Sem.run_bind] using this
   | real=>
    simp only [step0] at h
    obtain ⟨vs,v,e2,hv',h⟩:=nU hr h
    refine ⟨_,v,h,rfl,fun w' _=>?_⟩
    have:=hv' w'
    simp only [execOp,resolve,invoke,builtin,Sem.run_bind,Sem.run_pure,Result.andThen_ok,e2]
    simpa [Sem.run_bind] using this
   | imag=>
    simp only [step0] at h
    obtain ⟨vs,v,e2,hv',h⟩:=nU hr h
    refine ⟨_,v,h,rfl,fun w' _=>?_⟩
    have:=hv' w'
    simp only [execOp,resolve,invoke,builtin,Sem.run_bind,Sem.run_pure,Result.andThen_ok,e2]
    simpa [Sem.run_bind] using this
   | _=>cases ho
  | _=>cases ho
 | _=>cases ho
def Mem.less {m m':M} {β ρ} {w:World} (h:Mem W G m β ρ w) (ho:m'.own.length=m.own.length) (hr:m'.rows.length=m.rows.length)
  (ho2:∀(b:Nat) x,m'.own[b]?=some (some x)→m.own[b]?=some (some x)) (hr2:∀(i:Nat) x,m'.rows[i]?=some (some x)→m.rows[i]?=some (some x))
  (hf:∀φ∈m'.facts,φ∈m.facts∨∀g,φ.g=some g→lB m' β ρ g∧∃o,w.heap[g]?=some o∧φ.holds o):Mem W G m' β ρ w where
 grown:=h.grown
 nd:=h.nd
 bl:=h.bl.trans ho.symm
 lo:=h.lo
 own b cs ty hb:=h.own b cs ty (ho2 b _ hb)
 rl:=h.rl.trans hr.symm
 row i r hi:=h.row i r (hr2 i _ hi)
 rb:=h.rb
 rows:=h.rows
 fact φ hφ g hg:=by
  rcases hf φ hφ with hm | hm
  ·obtain ⟨⟨h1,h2⟩,h3⟩:=h.fact φ hm g hg
   refine ⟨⟨fun b hb=>?_,fun i v hv e=>?_⟩,h3⟩
   ·have:=h1 b hb
    cases hq:(m'.own[b]?).join with
    | none=>rfl
    | some x=>rw [ho2 b x (join_eq hq)] at this;cases this
   ·have:=h2 i v hv e
    cases hq:(m'.rows[i]?).join with
    | none=>rfl
    | some x=>rw [hr2 i x (join_eq hq)] at this;cases this
  ·exact hm g hg
def sr {α:Type} {l:List (Option α)} {i b:Nat} {x:α} (h:(l.set i none)[b]?=some (some x)):l[b]?=some (some x):=by
 rw [List.getElem?_set] at h
 by_cases hib:i=b
 ·rw [if_pos hib] at h
  split at h <;> cases h
 ·rwa [if_neg hib] at h
def Fc {β:List Nat} {ρ:List Value} {i:Nat} {v:Value} (hv:ρ[i]?=some v):∀x y,Rel β ρ x y→Rel β ρ (gi i (.v v) x) y:=by
 intro x y h
 cases x with
 | r j=>
  simp only [gi]
  cases hb:(i==j) with
  | true=>
   have:i=j:=by simpa using hb
   subst this
   have h:ρ[i]?=some y:=h
   rw [hv] at h
   exact (Option.some.inj h).symm
  | false=>exact h
 | q j o=>
  simp only [gi]
  cases hb:(i==j) with
  | true=>trivial
  | false=>exact h
 | w j lo sz=>
  simp only [gi]
  cases hb:(i==j) with
  | true=>trivial
  | false=>exact h
 | _=>exact h
def Ff {β:List Nat} {ρ:List Value} {b n g:Nat} (hg:β[b]?=some g):∀x y,Rel β ρ x y→Rel β ρ (EF b n (.v (.slice (some ⟨g,0,none⟩) n n)) x) y:=by
 intro x y h
 cases x with
 | s b2 n2=>
  simp only [EF]
  cases hb2:(b==b2&&n==n2) with
  | true=>
   simp only [Bool.and_eq_true,beq_iff_eq] at hb2
   obtain ⟨rfl,rfl⟩:=hb2
   obtain ⟨g2,hg2,rfl⟩:=h
   rw [hg] at hg2
   cases hg2
   rfl
  | false=>exact h
 | _=>exact h
def s8 {ρ:List Value} {i:Nat} {v:Value} (hv:ρ[i]?=some v):ρ.set i v=ρ:=by
 apply List.ext_getElem?
 intro j
 rw [List.getElem?_set]
 by_cases hij:i=j
 ·subst hij;rw [if_pos rfl,if_pos (List.getElem?_eq_some_iff.1 hv).1,hv]
 ·rw [if_neg hij]
def qj (m:M):m.bP id=m:=by
 obtain ⟨own,rows,facts⟩:=m
 simp only [M.bP,M.mk.injEq,and_true]
 apply List.ext_getElem?
 intro i
 rw [List.getElem?_map]
 cases own[i]? with
 | none=>rfl
 | some q=>cases q with
  | none=>rfl
  | some q=>simp
def uG {β:List Nat} {ρ:List Value} (j:Nat) (v':Value):∀x y,Rel β ρ x y→Rel β (ρ.set j v') (gi j .any x) y:=by
 intro x y h
 cases x with
 | r j2=>
  simp only [gi]
  cases hb:(j==j2) with
  | true=>trivial
  | false=>
   have:j≠j2:=by simpa using hb
   show (ρ.set j v')[j2]?=some y
   rw [List.getElem?_set,if_neg this]
   exact h
 | q j2 o2=>
  simp only [gi]
  cases hb:(j==j2) with
  | true=>trivial
  | false=>
   have:j≠j2:=by simpa using hb
   obtain ⟨v2,g2,hv2,hg2,rfl⟩:=h
   exact ⟨v2,g2,by rw [List.getElem?_set,if_neg this];exact hv2,hg2,rfl⟩
 | w j2 lo2 sz2=>
  simp only [gi]
  cases hb:(j==j2) with
  | true=>trivial
  | false=>
   have:j≠j2:=by simpa using hb
   obtain ⟨a2,n2,c2,hv2,hl2,rfl⟩:=h
   exact ⟨a2,n2,c2,by rw [List.getElem?_set,if_neg this];exact hv2,hl2,rfl⟩
 | _=>exact h
def jU {x:T} {m:M} {t:List T} {β ρ} {l:List Value} {w:World} {y:Value} {k:T→M→List T→Tree} (hm:Mem W G m β ρ w) (hr:ak β ρ t l) (hx:Rel β ρ x y)
  (h:(je x m t k).aD P W G Q ds):∃x' m' t',(k x' m' t').aD P W G Q ds∧Mem W G m' β ρ w∧ak β ρ t' l∧Rel β ρ x' y:=by
 cases x with
 | r i=>
  simp only [je] at h
  cases hi:(m.rows[i]?).join with
  | none=>rw [hi] at h;exact h.elim
  | some r=>
   rw [hi] at h
   have hi':=join_eq hi
   obtain ⟨v,hv,ho⟩:=hm.row i r hi'
   have hx:ρ[i]?=some y:=hx
   rw [hv] at hx
   obtain rfl:=Option.some.inj hx
   have key:∀a c,v=.slice a r.n c→(∀g,v.ownBlock=some g→∃o,w.heap[g]?=some o∧(ay a r.xs).holds o)→Sl a r.n c→sE W G a→∃x' m' t',(k x' m' t').aD P W G Q ds∧Mem W G m' β ρ w∧ak β ρ t' l∧Rel β ρ x' v:=by
    intro a c hvac hfact h1 hfr
    refine ⟨_,_,_,h a c h1 hfr,Mem.bP (m:={ m with rows:=m.rows.set i none,facts:=ay a r.xs::m.facts }) (hm.less rfl (by simp) (fun _ _ h=>h) (fun _ _ h=>sr h) ?_) _ (Fc (hvac▸hv)),?_,hvac⟩
    ·intro φ hφ
     rcases List.mem_cons.1 hφ with rfl | hφ
     ·refine .inr fun g hg=>?_
      have hob:v.ownBlock=some g:=by
       rw [hvac]
       cases a with
       | none=>cases hg
       | some a=>exact hg
      refine ⟨⟨fun b hb=>absurd (List.mem_of_getElem? hb) (hm.rb v (List.mem_of_getElem? hv) g hob).1,fun j u hu hug=>?_⟩,hfact g hob⟩
      by_cases hij:i=j
      ·subst hij
       show ((m.rows.set i none)[i]?).join=none
       rw [List.getElem?_set,if_pos rfl]
       split <;> rfl
      ·exact absurd hug (hm.rows i j v u g hij hv hu hob)
     ·exact .inl hφ
    ·exact hr.G1 _ (Fc (hvac▸hv))
   rcases ho.2 with ⟨rfl,h0⟩ | ⟨g,cap,cur,rfl,hbg,hw,hnc,hcm,hcs,htake⟩
   ·exact key none 0 (by rw [h0]) (fun g hg=>by simp [Value.ownBlock] at hg) ⟨by omega,by simp [maxLen],fun _=>⟨h0,rfl⟩⟩ (fun ad h=>by cases h)
   ·refine key (some ⟨g,0,none⟩) cap rfl (fun g' hg'=>?_) ⟨hnc,hcm,fun hn=>by cases hn⟩ (fun ad h=>by cases h;exact (hm.rb _ (List.mem_of_getElem? hv) g rfl).2.1)
    simp [Value.ownBlock] at hg'
    subst hg'
    refine ⟨_,hw,fun ad had=>?_⟩
    cases had
    refine ⟨rfl,cur,_,_,rfl,fun j u hu=>?_⟩
    rw [← htake,List.getElem?_take] at hu
    split at hu
    ·simpa using hu
    ·cases hu
 | s b n=>
  simp only [je] at h
  cases hc:m.cells b with
  | none=>rw [hc] at h;exact h.elim
  | some q=>
   obtain ⟨cs,e⟩:=q
   rw [hc] at h
   simp only [] at h
   cases hvs:aH cs with
   | none=>rw [hvs] at h;exact h.elim
   | some vs=>
    rw [hvs] at h
    simp only [] at h
    cases hb:Nat.ble n 1000 with
    | false=>rw [hb] at h;exact h.elim
    | true=>
     rw [hb] at h
     simp only [Nat.ble_eq] at hb
     obtain ⟨g,hg,rfl⟩:=hx
     obtain ⟨g',l',hg',hw,hl',_⟩:=hm.own b cs e (join_eq hc)
     rw [hg] at hg'
     obtain rfl:=Option.some.inj hg'
     have e1:=aE _ _ _ hvs hl'
     subst e1
     refine ⟨_,_,_,h (some ⟨g,0,none⟩) n ⟨Nat.le_refl _,by unfold maxLen;omega,fun hn=>by cases hn⟩ (fun ad h=>by cases h;exact .inl (hm.lo g (List.mem_of_getElem? hg)).1),Mem.bP (m:={ m with own:=m.own.set b none,facts:=ay (some ⟨g,0,none⟩) l'::m.facts }) (hm.less (by simp) rfl (fun _ _ h=>sr h) (fun _ _ h=>h) ?_) _ (Ff hg),?_,rfl⟩
     ·intro φ hφ
      rcases List.mem_cons.1 hφ with rfl | hφ
      ·refine .inr fun g' hg'=>?_
       cases hg'
       refine ⟨⟨fun b' hb'=>?_,fun j u hu hug=>absurd (List.mem_of_getElem? hg) (hm.rb u (List.mem_of_getElem? hu) g hug).1⟩,_,hw,fun ad had=>?_⟩
       ·have:b=b':=by
         obtain ⟨h1,h2⟩:=List.getElem?_eq_some_iff.1 hg
         obtain ⟨h3,h4⟩:=List.getElem?_eq_some_iff.1 hb'
         exact (List.getElem_inj hm.nd).1 (h2.trans h4.symm)
        subst this
        show ((m.own.set b none)[b]?).join=none
        rw [List.getElem?_set,if_pos rfl]
        split <;> rfl
       ·cases had
        exact ⟨rfl,_,_,_,rfl,fun j u hu=>by simpa using hu⟩
      ·exact .inl hφ
     ·exact hr.G1 _ (Ff hg)
 | any=>exact ⟨_,_,_,h,hm,hr,hx⟩
 | v z=>exact ⟨_,_,_,h,hm,hr,hx⟩
 | p b o=>exact ⟨_,_,_,h,hm,hr,hx⟩
 | fn f c=>exact ⟨_,_,_,h,hm,hr,hx⟩
 | q i o=>exact ⟨_,_,_,h,hm,hr,hx⟩
 | w i lo sz=>exact ⟨_,_,_,h,hm,hr,hx⟩
def mO {β ρ} {l:List Value} {w:World}:∀(xs:List T) (ys:List Value) {m:M} {t:List T} {k:M→List T→Tree},Mem W G m β ρ w→ak β ρ t l→ak β ρ xs ys→(rB xs m t k).aD P W G Q ds→
  ∃m' t',(k m' t').aD P W G Q ds∧Mem W G m' β ρ w∧ak β ρ t' l
 | [],ys,m,t,k,hm,hr,hx,h=>⟨_,_,h,hm,hr⟩
 | x::xs,ys,m,t,k,hm,hr,hx,h=>by
  cases ys with
  | nil=>have:=hx.1;simp at this
  | cons y ys=>
   obtain ⟨y',hy,hyr⟩:=hx.2 0 x rfl
   simp at hy
   subst hy
   obtain ⟨x',m',t',h,hm',hr',_⟩:=jU hm hr hyr h
   exact mO xs ys hm' hr' ⟨by have:=hx.1;simpa using this,fun i z hz=>by obtain ⟨u,hu,hur⟩:=hx.2 (i+1) z (by simpa using hz);exact ⟨u,by simpa using hu,hur⟩⟩ h
def cD {x:T} {m:M} {t:List T} {β ρ} {l:List Value} {w:World} {y:Value} {k:T→M→List T→Tree} (hm:Mem W G m β ρ w) (hr:ak β ρ t l) (hx:Rel β ρ x y)
  (h:(dV x m t k).aD P W G Q ds):∃x' m' t',(k x' m' t').aD P W G Q ds∧Mem W G m' β ρ w∧ak β ρ t' l∧Rel β ρ x' y:=by
 cases x with
 | s b n=>
  simp only [dV] at h
  cases hc:m.cells b with
  | none=>rw [hc] at h;exact h.elim
  | some q=>
   obtain ⟨cs,e⟩:=q
   rw [hc] at h
   obtain ⟨g,l',hg',hw,hl',_⟩:=hm.own b cs e (join_eq hc)
   obtain ⟨m',t',h,hm',hr'⟩:=mO cs l' hm hr hl' h
   exact jU hm' hr' hx h
 | _=>exact jU hm hr hx h
def ak.cons {β ρ x y t l} (h:Rel β ρ x y) (ht:ak β ρ t l):ak β ρ (x::t) (y::l):=(ak.one h).app ht
def bM {β ρ} {l:List Value} {w:World}:∀(xs:List T) (ys:List Value) {m:M} {t:List T} {k:List T→M→List T→Tree},Mem W G m β ρ w→ak β ρ t l→ak β ρ xs ys→(bW xs m t k).aD P W G Q ds→
  ∃xs' m' t',(k xs' m' t').aD P W G Q ds∧Mem W G m' β ρ w∧ak β ρ t' l∧ak β ρ xs' ys
 | [],ys,m,t,k,hm,hr,hx,h=>⟨_,_,_,h,hm,hr,hx⟩
 | x::xs,ys,m,t,k,hm,hr,hx,h=>by
  cases ys with
  | nil=>have:=hx.1;simp at this
  | cons y ys=>
   obtain ⟨y',hy,hyr⟩:=hx.2 0 x rfl
   simp at hy
   subst hy
   have ht:ak β ρ xs ys:=⟨by have:=hx.1;simpa using this,fun i x hx'=>by obtain ⟨z,hz,hzr⟩:=hx.2 (i+1) x (by simpa using hx');exact ⟨z,by simpa using hz,hzr⟩⟩
   obtain ⟨x',m',t',h,hm',hr',hx'⟩:=cD hm hr hyr h
   obtain ⟨xs',m2,t2,h,hm2,hr2,hxs⟩:=bM xs ys hm' hr' ht h
   exact ⟨_,_,_,h,hm2,hr2,ak.cons hx' hxs⟩
def nS {w:World} {base:Nat} (t ty e:TypeId) (i:TypeInfo) (z:Value) (size bytes:Nat) (ht:P.underlying t=some (.slice e)) (hi:P.info? e=some i) (hz:i.zero=some z)
  (hsize:i.size=size) (hby:i.bytes=bytes) (hzs:z.cells.size=size) (hsz:0<size) {v:Value} {n:Nat} {xs:List Value} (hown:w.ownsRow base e size v n xs)
  (ad:Option Addr) (m c:Nat) (news:List Value) (hl:news.length=m*size) (hnews:∀a,ad=some a→∀(j:Nat) (u:Value),news[j]?=some u→w.cell? (a.add j)=some u) (h1:∀u∈news,u.oneCell'=true)
  (hn:ad=none→m=0∧c=0) (h63:n+m≤maxLen) (hbytes:(n+m)*bytes≤140737488355328) (hbase:base≤w.heap.size) :
  ∃v' w',(Builtin.append_ #[t,t] ty #[v,.slice ad m c]).run P w=.ok v' w'∧w'.ownsRow base e size v' (n+m) (xs++news)∧w.grownBy w' v.ownBlock∧
   (v'.ownBlock=v.ownBlock∨v'.ownBlock=some w.heap.size∧w.heap.size<w'.heap.size):=by
 cases ad with
 | none=>
  obtain ⟨rfl,rfl⟩:=hn rfl
  have:news=[]:=List.eq_nil_of_length_eq_zero (by simpa using hl)
  subst this
  exact ⟨v,w,run_append_owned_none (P:=P) (w:=w) base t ty e i size ht hi v n xs hown,by simpa using hown,⟨rfl,rfl,rfl,Nat.le_refl _,fun _ _ _=>rfl⟩,.inl rfl⟩
 | some a=>
  have hnews:=hnews a rfl
  obtain ⟨v',w',hrun,h2,h3,h4⟩:=run_append_own (P:=P) (w:=w) base t ty e i z size bytes ht hi hz hsize hby hzs hsz v n xs hown a m c news hl hnews h1 h63 hbytes hbase
  refine ⟨v',w',hrun,h2,h3,?_⟩
  subst hsize hby
  rcases hown.2 with ⟨rfl,rfl⟩ | ⟨g,cap,cur,rfl,hbg,hg,hnc,hcm,hcs,htake⟩
  ·by_cases hm:m=0
   ·exact .inl (by rw [(h4.2 ⟨rfl,hm⟩)])
   ·have hr:=run_append_nil (P:=P) w t ty e i z ht hi hz a m c news hl hnews (by omega) (by unfold maxLen at h63;omega) (by have hb:=hbytes;simp only [Nat.zero_add] at hb;omega)
    rw [hrun] at hr
    simp only [Result.ok.injEq] at hr
    obtain ⟨rfl,rfl⟩:=hr
    exact .inr ⟨rfl,by simp⟩
  ·by_cases hroom:n+m≤cap
   ·have hfit:n*i.size+news.length≤cur.size:=by rw [hl,hcs,← Nat.add_mul];exact Nat.mul_le_mul_right _ hroom
    have hr:=run_append_room (P:=P) w t ty e i ht hi g n cap cur hg a m c news hl hnews h1 hroom hfit
    rw [hrun] at hr
    simp only [Result.ok.injEq] at hr
    obtain ⟨rfl,rfl⟩:=hr
    exact .inl rfl
   ·have holds:∀(j:Nat) (u:Value),xs[j]?=some u→w.cell? ((⟨g,0,none⟩:Addr).add j)=some u:=hown.cells (g:=g) rfl
    have hr:=run_append_grow (P:=P) w t ty e i z ht hi hz ⟨g,0,none⟩ n cap xs hown.1 holds a m c news hl hnews (by omega) (by unfold maxLen at h63;omega) (growslice_fits (by omega) hbytes)
    rw [hrun] at hr
    simp only [Result.ok.injEq] at hr
    obtain ⟨rfl,rfl⟩:=hr
    exact .inr ⟨rfl,by simp⟩
def x9 {w:World} (t t2 ty e:TypeId) (i:TypeInfo) (z:Value) (size bytes:Nat) (ht:P.underlying t=some (.slice e)) (ht2:P.underlying t2=some (.int .i64)) (hi:P.info? e=some i) (hz:i.zero=some z)
  (hsize:i.size=size) (hby:i.bytes=bytes) (hzs:z.cells.size=size) (hsz:0<size) (j:Int) (h0:0<j) (hj:j≤140737488355328) (hb:j.toNat*bytes≤140737488355328) :
  ∃v w' xs,(Builtin.append_ #[t,t2] ty #[.slice none 0 0,.int .i64 j]).run P w=.ok v w'∧xs.length=j.toNat*size∧w'.ownsRow w.heap.size e size v j.toNat xs∧Below w.heap.size w w':=by
 obtain ⟨n,rfl⟩:=Int.eq_ofNat_of_zero_le (show 0≤j by omega)
 simp only [Int.toNat_natCast] at hb ⊢
 have hn:¬ n=0:=by omega
 have hns:¬ n*size=0:=by
  intro h
  rcases Nat.mul_eq_zero.1 h with h | h <;> omega
 have hwrap:IntKind.i64.wrap (n:Int)=n:=IntWalk.i64_in _ ⟨by omega,by omega⟩
 have hneg:¬ ((n:Int)<0):=by omega
 have hbig:¬ (281474976710656<(n:Int)*(bytes:Int)):=by
  have:((n*bytes:Nat):Int)≤140737488355328:=Int.ofNat_le.2 hb
  rw [Int.natCast_mul] at this
  omega
 have hnx:¬ (281474976710656<Builtin.nextslicecap n 0*bytes):=by
  have:=growslice_fits (need:=n) (old:=0) (bytes:=bytes) (by omega) hb
  omega
 have hge:=grownCap_ge w n 0 e
 have hcm:grownCap w n 0 e≤maxLen:=grownCap_le_maxLen w n 0 e (by unfold maxLen;omega)
 have h63:¬ (9223372036854775807<(n:Int)):=by omega
 refine ⟨.slice (some ⟨w.heap.size,0,none⟩) n (grownCap w n 0 e),w.drew.alloc (.cells (Builtin.zeroCells z.cells n++Builtin.zeroCells z.cells (grownCap w n 0 e - n)) e),(Builtin.zeroCells z.cells n).toList,?_,?_,⟨?_,.inr ⟨w.heap.size,_,_,rfl,Nat.le_refl _,heap_alloc_new w.drew _,hge,hcm,?_,?_⟩⟩,⟨rfl,rfl,rfl,by simp,fun _ hk=>heap_alloc_old w.drew _ hk⟩⟩
 ·subst hsize hby
  have hnx':¬ (2 ^ 48<Builtin.nextslicecap n 0*i.bytes):=by simpa using hnx
  have hu1:=fun w=>run_underlying (w:=w) ht
  have hu2:=fun w=>run_underlying (w:=w) ht2
  simp [Builtin.append_,hu1,hu2,sizeOf,typeInfo,hi,asInt,asIntOf,zeroValue,hz,hwrap,hneg,hbig,hn,hnx,h63,hns,Builtin.firstCells,Question.forced,newRow,grownCap]
 ·simp [size_zeroCells,hzs]
 ·simp [size_zeroCells,hzs]
 ·simp only [Array.size_append,size_zeroCells,hzs,← Nat.add_mul]
  congr 1
  omega
 ·rw [Array.toList_append]
  have:(Builtin.zeroCells z.cells n).toList.length=n*size:=by simp [size_zeroCells,hzs]
  rw [← this]
  exact List.take_left
def Mem.newRow {m:M} {β ρ} {w:World} (h:Mem W G m β ρ w) (e:TypeId) (size:Nat):Mem W G { m with rows:=m.rows++[some ⟨e,size,0,[]⟩] } β (ρ++[.slice none 0 0]) w where
 grown:=h.grown
 nd:=h.nd
 bl:=h.bl
 lo:=h.lo
 own b cs ty hb:=by obtain ⟨g,l,h1,h2,h3,h4⟩:=h.own b cs ty hb;exact ⟨g,l,h1,h2,h3.ef _,h4⟩
 rl:=by simp [h.rl]
 row i r hi:=by
  rcases Nat.lt_or_ge i m.rows.length with hl | hl
  ·rw [List.getElem?_append_left hl] at hi
   obtain ⟨v,hv,ho⟩:=h.row i r hi
   exact ⟨v,by rw [List.getElem?_append_left (by rw [h.rl];exact hl)];exact hv,ho⟩
  ·rw [List.getElem?_append_right hl] at hi
   obtain ⟨h0,h1⟩:=List.getElem?_eq_some_iff.1 hi
   simp only [List.length_singleton] at h0
   obtain rfl:i=m.rows.length:=by omega
   simp at hi
   subst hi
   exact ⟨_,by rw [← h.rl,List.getElem?_append_right (Nat.le_refl _)];simp,World.ownsRow_nil _ _ _ _⟩
 rb v hv g hg:=by
  rcases List.mem_append.1 hv with hv | hv
  ·exact h.rb v hv g hg
  ·simp only [List.mem_singleton] at hv;subst hv;cases hg
 rows i j v u g hij hv hu hvg hug:=by
  have low:∀(i:Nat) (v:Value),(ρ++[Value.slice none 0 0])[i]?=some v→v.ownBlock=some g→ρ[i]?=some v:=by
   intro i v hv hvg
   rcases Nat.lt_or_ge i ρ.length with hl | hl
   ·rwa [List.getElem?_append_left hl] at hv
   ·rw [List.getElem?_append_right hl] at hv
    have:=List.mem_of_getElem? hv
    simp only [List.mem_singleton] at this
    subst this
    cases hvg
  exact h.rows i j v u g hij (low i v hv hvg) (low j u hu hug) hvg hug
 fact φ hφ g hg:=by
  obtain ⟨⟨h1,h2⟩,h3⟩:=h.fact φ hφ g hg
  refine ⟨⟨h1,fun i v hv hvg=>?_⟩,h3⟩
  rcases Nat.lt_or_ge i ρ.length with hl | hl
  ·rw [List.getElem?_append_left hl] at hv
   show ((m.rows++_)[i]?).join=none
   rw [List.getElem?_append_left (by rw [← h.rl];exact hl)]
   exact h2 i v hv hvg
  ·rw [List.getElem?_append_right hl] at hv
   have:=List.mem_of_getElem? hv
   simp only [List.mem_singleton] at this
   subst this
   cases hvg
def rD {v v':Value} {w w':World} (hw:v'.ownBlock=v.ownBlock∨v'.ownBlock=some w.heap.size∧w.heap.size<w'.heap.size):∀g,v'.ownBlock=some g→v.ownBlock=some g∨(w.heap.size≤g∧g<w'.heap.size):=by
 intro g hg
 rcases hw with hw | ⟨hw,hlt⟩
 ·exact .inl (hw▸hg)
 ·rw [hw] at hg
  cases hg
  exact .inr ⟨Nat.le_refl _,hlt⟩
def Mem.append {m:M} {β ρ} {w w':World} {j:Nat} {r:Row} {v v':Value} {e:TypeId} {size n:Nat} {xs:List Value} (h:Mem W G m β ρ w) (hj:m.rows[j]?=some (some r)) (hv:ρ[j]?=some v)
  (ho:w'.ownsRow 0 e size v' n xs) (hg:w.grownBy w' v.ownBlock) (hw:∀g,v'.ownBlock=some g→v.ownBlock=some g∨(w.heap.size≤g∧g<w'.heap.size))
  (t:List T) (l:List Value) (hr:ak β ρ t l) (f:T→T) (hf:∀x y,Rel β ρ x y→Rel β (ρ.set j v') (f x) y):Mem W G (M.bP { m with rows:=m.rows.set j (some ⟨e,size,n,xs⟩) } f) β (ρ.set j v') w'∧ak β (ρ.set j v') (t.map f) l:=by
 have hvm:=List.mem_of_getElem? hv
 have hjl:j<ρ.length:=(List.getElem?_eq_some_iff.1 hv).1
 have hb':∀g,v'.ownBlock=some g→g∉β∧(W.heap.size≤g∨some g=G)∧g<w'.heap.size:=by
  intro g hgv
  rcases hw g hgv with hgv | ⟨hge,hlt⟩
  ·have:=h.rb v hvm g hgv
   exact ⟨this.1,this.2.1,Nat.lt_of_lt_of_le this.2.2 hg.size⟩
  ·exact ⟨fun hm=>by have:=(h.lo _ hm).2;omega,.inl (Nat.le_trans h.grown.size hge),hlt⟩
 have at':∀(i:Nat) (u:Value),(ρ.set j v')[i]?=some u→(i=j∧u=v')∨(i≠j∧ρ[i]?=some u):=by
  intro i u hu
  rw [List.getElem?_set] at hu
  by_cases hij:j=i
  ·subst hij
   rw [if_pos rfl,if_pos hjl] at hu
   exact .inl ⟨rfl,(Option.some.inj hu).symm⟩
  ·rw [if_neg hij] at hu
   exact .inr ⟨fun e=>hij e.symm,hu⟩
 have newer:∀(i:Nat) (u:Value) (g:Nat),i≠j→ρ[i]?=some u→u.ownBlock=some g→v'.ownBlock≠some g:=by
  intro i u g hij hu hug hvg
  rcases hw g hvg with hvg | ⟨hge,_⟩
  ·exact h.rows i j u v g hij hu hv hug hvg
  ·have:=(h.rb u (List.mem_of_getElem? hu) _ hug).2.2
   omega
 refine ⟨?_,?_⟩
 ·constructor
  ·exact CV h.grown hg (fun k hk=>(h.rb v hvm k hk).2.1)
  ·exact h.nd
  ·simpa [M.bP] using h.bl
  ·exact fun g hgm=>⟨(h.lo g hgm).1,Nat.lt_of_lt_of_le (h.lo g hgm).2 hg.size⟩
  ·intro b cs ty hb
   obtain ⟨cs0,hb0,rfl⟩:=qS hb
   obtain ⟨g,l0,h1,h2,h3,h4⟩:=h.own b cs0 ty hb0
   have hgm:=List.mem_of_getElem? h1
   exact ⟨g,l0,h1,(hg.block g (h.lo g hgm).2 (fun e=>(h.rb v hvm g e.symm).1 hgm)).trans h2,h3.G1 _ hf,h4⟩
  ·simp [M.bP,h.rl]
  ·intro i r2 hi
   simp only [M.bP,List.getElem?_set] at hi
   by_cases hij:j=i
   ·subst hij
    rw [if_pos rfl,if_pos (by rw [← h.rl];exact hjl)] at hi
    simp only [Option.some.injEq] at hi
    subst hi
    exact ⟨v',by rw [List.getElem?_set,if_pos rfl,if_pos hjl],ho⟩
   ·rw [if_neg hij] at hi
    obtain ⟨u,hu,hou⟩:=h.row i r2 hi
    refine ⟨u,by rw [List.getElem?_set,if_neg hij];exact hu,hou.kept hg ?_⟩
    cases hub:u.ownBlock with
    | none=>exact .inl rfl
    | some g=>exact .inr (fun e=>h.rows i j u v g (fun e=>hij e.symm) hu hv hub e.symm)
  ·intro u hu g hug
   obtain ⟨i,hi⟩:=List.getElem?_of_mem hu
   rcases at' i u hi with ⟨_,rfl⟩ | ⟨_,hi⟩
   ·exact hb' g hug
   ·have:=h.rb u (List.mem_of_getElem? hi) g hug
    exact ⟨this.1,this.2.1,Nat.lt_of_lt_of_le this.2.2 hg.size⟩
  ·intro i k u u2 g hik hu hu2 hug hu2g
   rcases at' i u hu with ⟨e1,e2⟩ | ⟨hi,hu'⟩
   ·rcases at' k u2 hu2 with ⟨e3,_⟩ | ⟨hk,hu2'⟩
    ·exact hik (e1.trans e3.symm)
    ·exact newer k u2 g hk hu2' hu2g (e2▸hug)
   ·rcases at' k u2 hu2 with ⟨e1,e2⟩ | ⟨hk,hu2'⟩
    ·exact newer i u g hi hu' hug (e2▸hu2g)
    ·exact h.rows i k u u2 g hik hu' hu2' hug hu2g
  ·intro φ hφ g hgφ
   obtain ⟨⟨h1,h2⟩,o,ho',hp⟩:=h.fact φ hφ g hgφ
   have hlt:=(Array.getElem?_eq_some_iff.1 ho').1
   have hne:v.ownBlock≠some g:=fun e=>by
    have:=h2 j v hv e
    rw [hj] at this
    cases this
   refine ⟨⟨fun b hb=>kQ (h1 b hb),fun i u hu hug=>?_⟩,o,(hg.block g hlt (fun e=>hne e.symm)).trans ho',hp⟩
   rcases at' i u hu with ⟨_,e2⟩ | ⟨hi,hu'⟩
   ·exfalso
    rw [e2] at hug
    rcases hw g hug with h0 | ⟨hge,_⟩
    ·exact hne h0
    ·omega
   ·simp only [M.bP,List.getElem?_set]
    rw [if_neg (fun e=>hi e.symm)]
    exact h2 i u hu' hug
 ·exact hr.G1 _ hf
def EU {α:Type} (c v:List α) (o N:Nat) (h:o+v.length≤N) (hN:N≤c.length):(fI c o v).take N=fI (c.take N) o v:=by
 apply List.ext_getElem?
 intro i
 unfold fI
 simp only [List.getElem?_take,List.getElem?_append,List.length_append,List.length_take,List.getElem?_drop]
 repeat' split
 all_goals first | rfl | omega | (congr 1;omega)
def vS {w:World} {e:TypeId} {size:Nat} {v:Value} {n:Nat} {xs:List Value} (ho:w.ownsRow 0 e size v n xs) {g:Nat} (hg:v.ownBlock=some g) (off:Nat) (vs:List Value) (hl:off+vs.length≤xs.length) (h1:∀u∈vs,u.oneCell'=true) :
  ∃w',(storeCells ⟨g,off,none⟩ vs).run P w=.ok () w'∧w'.ownsRow 0 e size v n (fI xs off vs)∧w.grownBy w' (some g):=by
 rcases ho.2 with ⟨rfl,_⟩ | ⟨g',cap,cur,rfl,hb,hw,hn,hc,hcs,ht⟩
 ·cases hg
 ·cases hg
  have hx:=ho.1
  have hle:n*size≤cur.toList.length:=by rw [Array.length_toList,hcs];exact Nat.mul_le_mul_right _ hn
  have hst:=run_storeCells_at P g' off e vs 0 cur w hw (by have:cur.size=cur.toList.length:=(by simp);omega) h1
  simp only [Nat.add_zero] at hst
  refine ⟨_,hst,⟨?_,.inr ⟨g',cap,_,rfl,hb,setRow_heap w g' cur _ e _ hw,hn,hc,?_,?_⟩⟩,⟨rfl,rfl,rfl,by simp [World.setRow],fun k _ hk=>setRow_other w g' k _ (fun e=>hk (by simp [e]))⟩⟩
  ·unfold fI
   simp only [List.length_append,List.length_take,List.length_drop]
   omega
  ·simp only [List.size_toArray,List.length_append,List.length_take,List.length_drop,Array.length_toList]
   have:cur.size=cur.toList.length:=by simp
   omega
  ·rw [← ht]
   exact EU _ _ _ _ (by omega) hle
def Mem.wX {m:M} {β ρ} {w w':World} {v:Value} {e:TypeId} {size n:Nat} {ys:List Value} (h:Mem W G m β ρ w') (ho:w'.ownsRow w.heap.size e size v n ys)
  (hlo:∀g∈β,W.heap.size≤g∧g<w.heap.size) (hrb:∀v∈ρ,∀g,v.ownBlock=some g→g∉β∧(W.heap.size≤g∨some g=G)∧g<w.heap.size) (hf:∀φ∈m.facts,∀g,φ.g=some g→∃o,w.heap[g]?=some o∧φ.holds o) (hz:w.heap.size≤w'.heap.size) (hWw:W.heap.size≤w.heap.size) :
  Mem W G { m with rows:=m.rows++[some ⟨e,size,n,ys⟩] } β (ρ++[v]) w':=by
 have hnew:∀g,v.ownBlock=some g→w.heap.size≤g∧g<w'.heap.size:=fun g hg=>ho.lt g hg
 have ho0:w'.ownsRow 0 e size v n ys:=by
  refine ⟨ho.1,?_⟩
  rcases ho.2 with h0 | ⟨g,cap,cur,hv,_,hr⟩
  ·exact .inl h0
  ·exact .inr ⟨g,cap,cur,hv,Nat.zero_le _,hr⟩
 have at':∀(i:Nat) (u:Value),(ρ++[v])[i]?=some u→(i<ρ.length∧ρ[i]?=some u)∨(i=ρ.length∧u=v):=by
  intro i u hu
  rcases Nat.lt_or_ge i ρ.length with hl | hl
  ·rw [List.getElem?_append_left hl] at hu;exact .inl ⟨hl,hu⟩
  ·rw [List.getElem?_append_right hl] at hu
   obtain ⟨h0,h1⟩:=List.getElem?_eq_some_iff.1 hu
   simp only [List.length_singleton] at h0
   have:i=ρ.length:=by omega
   subst this
   simp at hu
   exact .inr ⟨rfl,hu.symm⟩
 constructor
 ·exact h.grown
 ·exact h.nd
 ·exact h.bl
 ·exact h.lo
 ·exact fun b cs ty hb=>by obtain ⟨g,l,h1,h2,h3,h4⟩:=h.own b cs ty hb;exact ⟨g,l,h1,h2,h3.ef _,h4⟩
 ·simp [h.rl]
 ·intro i r hi
  rcases Nat.lt_or_ge i m.rows.length with hl | hl
  ·rw [List.getElem?_append_left hl] at hi
   obtain ⟨u,hu,hou⟩:=h.row i r hi
   exact ⟨u,by rw [List.getElem?_append_left (by rw [h.rl];exact hl)];exact hu,hou⟩
  ·rw [List.getElem?_append_right hl] at hi
   obtain ⟨h0,h1⟩:=List.getElem?_eq_some_iff.1 hi
   simp only [List.length_singleton] at h0
   obtain rfl:i=m.rows.length:=by omega
   simp at hi
   subst hi
   exact ⟨v,by rw [← h.rl,List.getElem?_append_right (Nat.le_refl _)];simp,ho0⟩
 ·intro u hu g hg
  rcases List.mem_append.1 hu with hu | hu
  ·exact h.rb u hu g hg
  ·simp only [List.mem_singleton] at hu
   subst hu
   have:=hnew g hg
   exact ⟨fun hm=>by have:=(hlo g hm).2;omega,.inl (by omega),this.2⟩
 ·intro i j u u2 g hij hu hu2 hug hu2g
  rcases at' i u hu with ⟨_,hu'⟩ | ⟨e1,e1'⟩
  ·rcases at' j u2 hu2 with ⟨_,hu2'⟩ | ⟨_,e2'⟩
   ·exact h.rows i j u u2 g hij hu' hu2' hug hu2g
   ·have h1:=(hrb u (List.mem_of_getElem? hu') g hug).2.2
    have h2:=(hnew g (e2'▸hu2g)).1
    omega
  ·rcases at' j u2 hu2 with ⟨_,hu2'⟩ | ⟨e2,_⟩
   ·have h1:=(hrb u2 (List.mem_of_getElem? hu2') g hu2g).2.2
    have h2:=(hnew g (e1'▸hug)).1
    omega
   ·exact hij (e1.trans e2.symm)
 ·intro φ hφ g hg
  obtain ⟨⟨h1,h2⟩,h3⟩:=h.fact φ hφ g hg
  refine ⟨⟨h1,fun i u hu hug=>?_⟩,h3⟩
  rcases at' i u hu with ⟨hl,hu⟩ | ⟨_,rfl⟩
  ·show ((m.rows++_)[i]?).join=none
   rw [List.getElem?_append_left (by rw [← h.rl];exact hl)]
   exact h2 i u hu hug
  ·obtain ⟨o,ho2,_⟩:=hf φ hφ g hg
   have h4:=(Array.getElem?_eq_some_iff.1 ho2).1
   have h5:=(hnew g hug).1
   omega
def mS:∀(n size o i:Nat) (q:Nat×Nat),nth (eu n size o) i=some q→q=(o+i*size,size)
 | 0,_,_,_,_,h=>by cases h
 | n+1,size,o,0,q,h=>by simp [eu,nth] at h;rw [← h];simp
 | n+1,size,o,i+1,q,h=>by
  have:=mS n size (o+size) i q h
  rw [this,Nat.add_mul]
  congr 1
  omega
def vp {β ρ}:∀(n:Nat) {t:List T} {l:List Value},ak β ρ t l→ak β ρ (eG n t) (eG n l)
 | 0,_,_,_=>ak.nil
 | n+1,_,_,h=>h.app (vp n h)
def zV {α:Type} (l:List α) (s:Nat) (hs:l.length=s) (h0:0<s):∀(n i:Nat),i<n*s→(eG n l)[i]?=l[i % s]?
 | 0,i,h=>by omega
 | n+1,i,h=>by
  simp only [eG]
  rcases Nat.lt_or_ge i s with hi | hi
  ·rw [List.getElem?_append_left (by omega),Nat.mod_eq_of_lt hi]
  ·rw [List.getElem?_append_right (by omega),zV l s hs h0 n _ (by rw [hs];rw [Nat.add_mul] at h;omega),hs,Nat.mod_eq_sub_mod hi]
def iJ {α:Type} (l:List α):∀n,(eG n l).length=n*l.length
 | 0=>by simp [eG]
 | n+1=>by simp only [eG,List.length_append,iJ l n,Nat.add_mul];omega
def tQ (n size:Nat) (z:Array Value) (hz:z.size=size):(Array.range (n*size)).map (fun i=>z[i % size]!)=(eG n z.toList).toArray:=by
 apply Array.ext_getElem?
 intro i
 rcases Nat.eq_zero_or_pos size with h0 | h0
 ·subst h0
  have:z.toList=[]:=List.eq_nil_of_length_eq_zero (by simpa using hz)
  have h2:(eG n z.toList).length=0:=by rw [iJ,this];simp
  rw [List.eq_nil_of_length_eq_zero h2]
  simp
 ·rcases Nat.lt_or_ge i (n*size) with hi | hi
  ·have hm:i % size<z.size:=by rw [hz];exact Nat.mod_lt _ h0
   have e1:(eG n z.toList).toArray[i]?=z[i % size]?:=by
    rw [List.getElem?_toArray,zV z.toList size (by simpa using hz) h0 n i hi]
    simp
   rw [e1]
   simp [hi,hm]
  ·rw [Array.getElem?_eq_none (by simpa using hi),List.getElem?_toArray,List.getElem?_eq_none (by rw [iJ];simp [hz];exact hi)]
def isApp (o:Oper):Bool:=match o.op with
 | .call _=>false
 | _=>false
def iO (W:World) (G:Option Nat) (E:Env) (o:Oper) (a:Act) (β β':List Nat) (ρ ρ':List Value) (w w':World):Prop:=
 (isApp o=true∨E.quiet=false)∨((∃ρ1,ρ'=ρ++ρ1)∧(∃β1,β'=β++β1∧∀g∈β1,w.heap.size≤g)∧(Below w.heap.size w w'∨(∃(ty:TypeId) (x y:Operand) (g off:Nat),o.op=.store ty x y∧a.eval x=.pointer (some ⟨g,off,none⟩)∧w.grownBy w' (some g))∨(E.bare=true∧∃φ∈E.base,∃g,φ.g=some g∧(W.heap.size≤g∨some g=G)∧w.grownBy w' (some g))))
def Nz (P:Program) (W:World) (G:Option Nat) (Q:Ending→World→Prop) (ds:List Deferred) (E:Env) (k:M→List T→T→Tree) (o:Oper) (a:Act) (β:List Nat) (ρ:List Value) (w:World) (K:Act→World→Prop):Prop:=
 ∀m' t' x β' ρ' w' y,(k m' t' x).aD P W G Q ds→Mem W G m' β' ρ' w'→ak β' ρ' t' a.tmps.toList→Rel β' ρ' x y→iO W G E o a β β' ρ ρ' w w'→K (a.put o.dst y) w'
def iO.grow {W:World} {G:Option Nat} {E:Env} {o:Oper} {a:Act} {β β1 ρ} {w w':World} (h:Below w.heap.size w w') (hb:∀g∈β1,w.heap.size≤g):iO W G E o a β (β++β1) ρ ρ w w':=.inr ⟨⟨[],by simp⟩,⟨_,rfl,hb⟩,.inl h⟩
def iO.vO {W:World} {G:Option Nat} {E:Env} {o:Oper} {a:Act} {β ρ} {w w':World} (h:Below w.heap.size w w'):iO W G E o a β β ρ ρ w w':=.inr ⟨⟨[],by simp⟩,⟨[],by simp,by simp⟩,.inl h⟩
def gh (hE:E.Ok P) {o:Oper} {m:M} {t:List T} {β ρ} {a:Act} {w:World} {k:M→List T→T→Tree} {K:Act→World→Prop} {Q':Exit→Act→World→Prop}
  {m0:M} {β0 ρ0} (hβ:∃β1,β=β0++β1) (hρ:∃ρ1,ρ=ρ0++ρ1) (hl0:β0.length=m0.own.length) (hm0:Mem W G m0 β0 ρ0 w)
  (hm:Mem W G m β ρ w) (hr:ak β ρ t a.tmps.toList) (h:(step0 E o m0 m t k).aD P W G Q ds) (hK:Nz P W G Q ds E k o a β ρ w K):o.wp P a w K Q':=by
 cases ho:takes E.quiet o with
 | true=>
  obtain ⟨x,y,h1,h2,h3⟩:=step_take hE ho hβ hρ hl0 hm0 hm hr h
  unfold Oper.wp
  rw [h3 w (fun _=>hm0)]
  exact hK _ _ _ _ _ _ _ h1 hm hr h2 (iO.vO (Below.refl _ _))
 | false=>
  obtain ⟨dst,op,ty',pos,after,guard⟩:=o
  cases op with
  | alloc e=>
   simp only [step0] at h
   cases hz:lk E.zero e with
   | none=>rw [hz] at h;exact h.elim
   | some cs=>
    rw [hz] at h
    obtain ⟨z,hrun,hrel,h1⟩:=hE.zero e cs hz
    have hA:=hm.alloc cs e z.cells.toList (by simpa using (hrel.rQ β).iF ρ) h1
    unfold Oper.wp
    have:(execOp a.eval ⟨dst,.alloc e,ty',pos,after,guard⟩).run P w=.ok (.value (.pointer (some ⟨w.heap.size,0,none⟩))) (w.alloc (.cells z.cells e (0,0))):=by
     simp only [execOp,Instr.alloc,Sem.run_bind,hrun,Result.andThen_ok]
     rfl
    rw [this]
    rw [show z.cells.toList.toArray=z.cells from by simp] at hA
    refine hK _ _ _ _ _ _ _ h hA (hr.more _) ⟨w.heap.size,?_,rfl⟩ (iO.grow ((Below.refl _ _).alloc (Nat.le_refl _) _) (by simp))
    rw [← hm.bl,List.getElem?_append_right (Nat.le_refl _)]
    simp
  | box e x=>
   simp only [step0] at h
   cases hxs:jf (ev t x) with
   | none=>rw [hxs] at h;exact h.elim
   | some xs=>
    rw [hxs] at h
    simp only [] at h
    have hc:=(hr.ev x).cells hxs
    have ho1:dF xs=true:=by
     cases hb:dF xs with
     | true=>rfl
     | false=>rw [hb] at h;exact h.elim
    rw [ho1] at h
    have h1:=jx xs _ ho1 hc
    have hA:=hm.alloc xs e _ hc h1
    unfold Oper.wp
    have:(execOp a.eval ⟨dst,.box e x,ty',pos,after,guard⟩).run P w=.ok (.value (.pointer (some ⟨w.heap.size,0,none⟩))) (w.alloc (.cells (a.eval x).cells e (0,0))):=by
     simp only [execOp,Instr.box,Sem.run_bind]
     rfl
    rw [this]
    rw [show (a.eval x).cells.toList.toArray=(a.eval x).cells from by simp] at hA
    refine hK _ _ _ _ _ _ _ h hA (hr.more _) ⟨w.heap.size,?_,rfl⟩ (iO.grow ((Below.refl _ _).alloc (Nat.le_refl _) _) (by simp))
    rw [← hm.bl,List.getElem?_append_right (Nat.le_refl _)]
    simp
  | store ty x y=>
   simp only [step0,bO] at h
   have hx:=hr.ev x
   cases ex:ev t x with
   | p b off=>
    rw [ex] at h hx
    obtain ⟨g,hg,hp⟩:=hx
    simp only [] at h
    cases hkp:(E.keep&&AV (ev t y)) with
    | true=>
     rw [hkp] at h
     simp only [cond_true] at h
     cases hc:m.cells b with
     | none=>rw [hc] at h;exact h.elim
     | some q=>
     obtain ⟨cs,e⟩:=q
     cases hn:lk E.agg ty with
     | none=>rw [hc,hn] at h;exact h.elim
     | some n=>
     cases n with
     | some n=>rw [hc,hn] at h;exact h.elim
     | none=>
     cases ey:ev t y with
     | r i=>
      rw [hc,hn,ey] at h
      simp only [] at h
      cases hb:((m.rows[i]?).join.isSome&&Nat.blt off cs.length) with
      | false=>rw [hb] at h;exact h.elim
      | true=>
       rw [hb] at h
       simp only [Bool.and_eq_true,Nat.blt_eq] at hb
       obtain ⟨hb1,hb2⟩:=hb
       obtain ⟨r,hri⟩:=Option.isSome_iff_exists.1 hb1
       obtain ⟨v,hv,ho⟩:=hm.row i r (join_eq hri)
       have hy:=hr.ev y
       rw [ey] at hy
       have hy:ρ[i]?=some (a.eval y):=hy
       have hvy:v=a.eval y:=by rw [hv] at hy;exact Option.some.inj hy
       have h1:∀u∈[a.eval y],u.oneCell'=true:=by
        intro u hu
        simp only [List.mem_singleton] at hu
        subst hu
        rw [← hvy]
        rcases ho.2 with ⟨rfl,_⟩ | ⟨g,cap,cur,rfl,_⟩ <;> rfl
       have hcs:(a.eval y).cells.toList=[a.eval y]:=by
        rw [← hvy]
        rcases ho.2 with ⟨rfl,_⟩ | ⟨g,cap,cur,rfl,_⟩ <;> rfl
       obtain ⟨g',l,hg',hw,hl,hl1⟩:=hm.own b cs e (join_eq hc)
       rw [hg] at hg'
       obtain rfl:=Option.some.inj hg'
       obtain ⟨inf,hi,his⟩:=hE.size ty none hn
       have hst:=run_storeCells_at P g off e [a.eval y] 0 l.toArray w hw (by have:=hl.1;simp;omega) h1
       simp only [Nat.add_zero] at hst
       unfold Oper.wp
       have:(execOp a.eval ⟨dst,.store ty x y,ty',pos,after,guard⟩).run P w=.ok .skip (w.setRow g (fI l off [a.eval y]).toArray):=by
        have hsz:(a.eval y).cells.size=1:=by have:=congrArg List.length hcs;simpa using this
        simp only [execOp,Instr.storeAt,hp,Instr.sureAddr,Sem.run_bind,Sem.run_pure,Result.andThen_ok,storeVar,sizeOf,typeInfo]
        simp [hi,his,hsz,hcs,hst,fI]
       rw [this]
       have hone:∀u∈fI l off [a.eval y],u.oneCell'=true:=by
        intro u hu
        simp only [fI,List.mem_append] at hu
        rcases hu with (hu | hu) | hu
        ·exact hl1 u (List.mem_of_mem_take hu)
        ·exact h1 u hu
        ·exact hl1 u (List.mem_of_mem_drop hu)
       have hspl:fI cs off [T.r i]=cs.set off (T.r i):=by
        unfold fI
        rw [List.set_eq_take_append_cons_drop,if_pos hb2]
        simp
       have hrel:=hl.fI (ak.one (show Rel β ρ (T.r i) (a.eval y) from hy)) off
       rw [hspl] at hrel
       exact hK _ _ _ _ _ _ _ h (hm.qp (join_eq hc) hg ⟨rfl,rfl,rfl,by simp [World.setRow],fun k _ hk=>setRow_other w g k _ (fun e=>hk (by simp [e]))⟩ (setRow_heap w g _ _ e _ hw) hrel hone) hr rfl (.inr ⟨⟨[],by simp⟩,⟨[],by simp⟩,.inr (.inl ⟨ty,x,y,g,off,rfl,hp,⟨rfl,rfl,rfl,by simp [World.setRow],fun k _ hk=>setRow_other w g k _ (fun e=>hk (by simp [e]))⟩⟩)⟩)
     | _=>rw [ey] at hkp;simp [AV] at hkp
    | false=>
    rw [hkp] at h
    simp only [cond_false] at h
    obtain ⟨yT,m,t,h,hm,hr2,hy⟩:=cD hm hr (hr.ev y) h
    cases hc:m.cells b with
    | none=>rw [hc] at h;exact h.elim
    | some q=>
     obtain ⟨cs,e⟩:=q
     rw [hc] at h
     simp only [] at h
     have hc':m.own[b]?=some (some (cs,e)):=by
      unfold M.cells at hc
      cases h0:m.own[b]? with
      | none=>rw [h0] at hc;cases hc
      | some z=>rw [h0] at hc;simp at hc;rw [hc]
     cases hxs:jf yT with
     | none=>rw [hxs] at h;exact h.elim
     | some xs=>
      cases hn:lk E.agg ty with
      | none=>rw [hxs,hn] at h;exact h.elim
      | some n=>
       rw [hxs,hn] at h
       simp only [] at h
       cases hb:(xs.length==n.getD 1&&Nat.ble (off+xs.length) cs.length&&dF xs) with
       | false=>rw [hb] at h;exact h.elim
       | true=>
        rw [hb] at h
        simp only [Bool.and_eq_true,beq_iff_eq,Nat.ble_eq] at hb
        obtain ⟨⟨hb1,hb2⟩,hb3⟩:=hb
        have hcl:=hy.cells hxs
        have h1:=jx xs _ hb3 hcl
        obtain ⟨g',l,hg',hw,hl,hl1⟩:=hm.own b cs e hc'
        rw [hg] at hg'
        obtain rfl:=Option.some.inj hg'
        obtain ⟨i,hi,his⟩:=hE.size ty n hn
        have hz:=hcl.1
        simp only [Array.length_toList] at hz
        have hst:=run_storeCells_at P g off e (a.eval y).cells.toList 0 l.toArray w hw (by have:=hl.1;simp;omega) h1
        simp only [Nat.add_zero] at hst
        unfold Oper.wp
        have:(execOp a.eval ⟨dst,.store ty x y,ty',pos,after,guard⟩).run P w=.ok .skip (w.setRow g (fI l off (a.eval y).cells.toList).toArray):=by
         simp only [execOp,Instr.storeAt,hp,Instr.sureAddr,Sem.run_bind,Sem.run_pure,Result.andThen_ok,storeVar,sizeOf,typeInfo]
         simp [hi,his,hz,hb1,hst,fI]
        rw [this]
        have hone:∀u∈fI l off (a.eval y).cells.toList,u.oneCell'=true:=by
         intro u hu
         simp only [fI,List.mem_append] at hu
         rcases hu with (hu | hu) | hu
         ·exact hl1 u (List.mem_of_mem_take hu)
         ·exact h1 u hu
         ·exact hl1 u (List.mem_of_mem_drop hu)
        exact hK _ _ _ _ _ _ _ h (hm.qp hc' hg ⟨rfl,rfl,rfl,by simp [World.setRow],fun k _ hk=>setRow_other w g k _ (fun e=>hk (by simp [e]))⟩ (setRow_heap w g _ _ e _ hw) (hl.fI hcl off) hone) hr2 rfl (.inr ⟨⟨[],by simp⟩,⟨[],by simp⟩,.inr (.inl ⟨ty,x,y,g,off,rfl,hp,⟨rfl,rfl,rfl,by simp [World.setRow],fun k _ hk=>setRow_other w g k _ (fun e=>hk (by simp [e]))⟩⟩)⟩)
   | q i off=>
    rw [ex] at h hx
    obtain ⟨v,g,hv,hg,hp⟩:=hx
    simp only [] at h
    cases hc:(m.rows[i]?).join with
    | none=>rw [hc] at h;exact h.elim
    | some r=>
    cases hxs:jf (ev t y) with
    | none=>rw [hc,hxs] at h;exact h.elim
    | some xs=>
    cases hn:lk E.agg ty with
    | none=>rw [hc,hxs,hn] at h;exact h.elim
    | some n=>
    rw [hc,hxs,hn] at h
    simp only [] at h
    cases hvs:aH xs with
    | none=>rw [hvs] at h;exact h.elim
    | some vs=>
    rw [hvs] at h
    simp only [] at h
    cases hb:(xs.length==n.getD 1&&dF xs) with
    | false=>rw [hb] at h;exact h.elim
    | true=>
    rw [hb] at h
    obtain ⟨hlen,h⟩:=h
    simp only [Bool.and_eq_true,beq_iff_eq] at hb
    have hcl:=(hr.ev y).cells hxs
    have h1:=jx xs _ hb.2 hcl
    have e1:=aE _ _ _ hvs hcl
    have hc':=join_eq hc
    obtain ⟨v',hv',ho⟩:=hm.row i r hc'
    rw [hv] at hv'
    cases hv'
    obtain ⟨inf,hi,his⟩:=hE.size ty n hn
    have hz:=hcl.1
    simp only [Array.length_toList] at hz
    subst e1
    obtain ⟨w',hst,ho',hgr⟩:=vS (P:=P) ho hg off (a.eval y).cells.toList (by simp only [Array.length_toList];omega) h1
    obtain ⟨hm',_⟩:=hm.append hc' hv ho' (by rw [hg];exact hgr) (rD (.inl rfl)) t a.tmps.toList hr id (fun x y h=>by rw [s8 hv];exact h)
    have hset:ρ.set i v=ρ:=by
     apply List.ext_getElem?
     intro j
     rw [List.getElem?_set]
     by_cases hij:i=j
     ·subst hij;rw [if_pos rfl,if_pos (List.getElem?_eq_some_iff.1 hv).1,hv]
     ·rw [if_neg hij]
    rw [hset,qj] at hm'
    unfold Oper.wp
    have:(execOp a.eval ⟨dst,.store ty x y,ty',pos,after,guard⟩).run P w=.ok .skip w':=by
     simp only [execOp,Instr.storeAt,hp,Instr.sureAddr,Sem.run_bind,Sem.run_pure,Result.andThen_ok,storeVar,sizeOf,typeInfo]
     simp [hi,his,hz,hb.1,hst]
    rw [this]
    exact hK _ _ _ _ _ _ _ h hm' hr rfl (.inr ⟨⟨[],by simp⟩,⟨[],by simp⟩,.inr (.inl ⟨ty,x,y,g,off,rfl,hp,hgr⟩)⟩)
   | _=>rw [ex] at h;exact h.elim
  | call c=>
   obtain ⟨callee,args,argTypes⟩:=c
   have hargs:ak β ρ (args.toList.map (ev t)) (args.toList.map a.eval):=by
    refine ⟨by simp,fun i x hx=>?_⟩
    rw [List.getElem?_map] at hx ⊢
    cases hi:args.toList[i]? with
    | none=>rw [hi] at hx;cases hx
    | some q=>rw [hi] at hx;cases hx;exact ⟨_,rfl,hr.ev q⟩
   cases callee with
   | value f=>
    have hf:=hr.ev f
    have run:∀(g:FuncId) (cs:List Value),a.eval f=.func (.func g) #[] cs.toArray→aP P g=true→∀{R:Ending→World→Prop},Calls P g (List.toArray (args.toList.map a.eval++cs)) w R→
      (∀e w',R e w'→∃v,e=.returned v∧K (a.put dst v) w')→Oper.wp P ⟨dst,.call ⟨.value f,args,argTypes⟩,ty',pos,after,guard⟩ a w K Q':=by
     intro g cs he hcall R hC hR
     unfold aP at hcall
     cases hfn:P.funcs[g]? with
     | none=>rw [hfn] at hcall;cases hcall
     | some fn=>
      rw [hfn] at hcall
      simp only [Bool.and_eq_true,Bool.not_eq_true',Option.isSome_iff_ne_none] at hcall
      unfold Oper.wp
      have:(execOp a.eval ⟨dst,.call ⟨.value f,args,argTypes⟩,ty',pos,after,guard⟩).run P w=.ok (.enter g (args.map a.eval++cs.toArray)) w:=by
       have hb:fn.body≠none:=hcall.2
       have hn:¬ fn.name = "runtime.NumGoroutine":=by simpa using hcall.1
       simp [execOp,resolve,Deferred.ofValue,he,invoke,callFunc,hfn,hn,hb]
      rw [this]
      have hvs:(args.toList.map a.eval++cs).toArray=args.map a.eval++cs.toArray:=by
       cases args;simp
      rw [hvs] at hC
      refine hC.mono fun e w' hw'=>?_
      obtain ⟨v,rfl,hk⟩:=hR e w' hw'
      exact hk
    have runB:∀(g:FuncId) (first:Array Value),a.eval f=.func (.func g) first #[]→aP P g=true→∀{R:Ending→World→Prop},Calls P g (List.toArray (first.toList++args.toList.map a.eval)) w R→
      (∀e w',R e w'→∃v,e=.returned v∧K (a.put dst v) w')→Oper.wp P ⟨dst,.call ⟨.value f,args,argTypes⟩,ty',pos,after,guard⟩ a w K Q':=by
     intro g first he hcall R hC hR
     unfold aP at hcall
     cases hfn:P.funcs[g]? with
     | none=>rw [hfn] at hcall;cases hcall
     | some fn=>
      rw [hfn] at hcall
      simp only [Bool.and_eq_true,Bool.not_eq_true',Option.isSome_iff_ne_none] at hcall
      unfold Oper.wp
      have:(execOp a.eval ⟨dst,.call ⟨.value f,args,argTypes⟩,ty',pos,after,guard⟩).run P w=.ok (.enter g (first++args.map a.eval)) w:=by
       have hb:fn.body≠none:=hcall.2
       have hn:¬ fn.name = "runtime.NumGoroutine":=by simpa using hcall.1
       simp [execOp,resolve,Deferred.ofValue,he,invoke,callFunc,hfn,hn,hb]
      rw [this]
      have hvs:(first.toList++args.toList.map a.eval).toArray=first++args.map a.eval:=by
       cases first;cases args;simp
      rw [hvs] at hC
      refine hC.mono fun e w' hw'=>?_
      obtain ⟨v,rfl,hk⟩:=hR e w' hw'
      exact hk
    have plain:∀(g:FuncId) (xs caps:List T) (cs:List Value) (m':M) (t':List T),a.eval f=.func (.func g) #[] cs.toArray→Mem W G m' β ρ w→ak β ρ t' a.tmps.toList→ak β ρ xs (args.toList.map a.eval)→ak β ρ caps cs→
      (Tree.call g (xs++caps) m' (fun v fs=>k (m'.eA fs) t' (.v v))).aD P W G Q ds→Oper.wp P ⟨dst,.call ⟨.value f,args,argTypes⟩,ty',pos,after,guard⟩ a w K Q':=by
     intro g xs caps cs m' t' he hm' hr' hxs hcaps h
     obtain ⟨hcall,h⟩:=h
     refine run g cs he hcall (h β ρ w (args.toList.map a.eval++cs) hm' (hxs.app hcaps)) fun e w' hw'=>?_
     obtain ⟨v,fs,rfl,hb,hn,h⟩:=hw'
     refine ⟨v,rfl,hK _ _ _ _ _ _ _ h ((hm'.grow hb).eA fs fun φ hφ g' hg'=>?_) hr' rfl (iO.vO hb)⟩
     obtain ⟨h1,h2⟩:=hn φ hφ g' hg'
     exact ⟨hm'.apart h1,h2⟩
    have go:∀(q:Bool) (g:FuncId) (caps:List T) (cs:List Value),a.eval f=.func (.func g) #[] cs.toArray→ak β ρ caps cs→
      (jq E q g (args.toList.map (ev t)) caps m t k).aD P W G Q ds→Oper.wp P ⟨dst,.call ⟨.value f,args,argTypes⟩,ty',pos,after,guard⟩ a w K Q':=by
     intro q g caps cs he hcaps h
     unfold jq at h
     cases hhow:ju E q g with
     | none=>
      rw [hhow] at h
      obtain ⟨xs,m',t',h,hm',hr',hxs⟩:=bM _ _ hm hr hargs h
      exact plain g xs caps cs m' t' he hm' hr' hxs hcaps h
     | some hw=>
      have hquiet:(∀e z,hw≠.fresh e z)→E.quiet=false:=fun hne=>by
       cases hq:E.quiet with
       | false=>rfl
       | true=>obtain ⟨e,z,h0⟩:=zq hq hhow;exact absurd h0 (hne e z)
      rw [hhow] at h
      cases hw with
      | lend=>exact plain g _ caps cs m t he hm hr hargs hcaps h
      | fresh e size=>
       obtain ⟨xs,m',t',h,hm',hr',hxs⟩:=bM _ _ hm hr hargs h
       obtain ⟨hcall,h⟩:=h
       refine run g cs he hcall (h β ρ w (args.toList.map a.eval++cs) hm' (hxs.app hcaps)) fun e' w' hw'=>?_
       obtain ⟨v,n,ys,rfl,hb,ho,h⟩:=hw'
       refine ⟨v,rfl,hK _ _ _ _ _ _ _ h ((hm'.grow hb).wX ho hm'.lo hm'.rb (fun φ hφ g hg=>(hm'.fact φ hφ g hg).2) hb.size hm'.grown.size) (hr'.ef v) ?_ (.inr ⟨⟨[v],rfl⟩,⟨[],by simp,by simp⟩,.inl hb⟩)⟩
       show (ρ++[v])[m'.rows.length]?=some v
       rw [← hm'.rl,List.getElem?_append_right (Nat.le_refl _)]
       simp
      | own=>
       simp only [] at h
       cases hrow:rowOf (args.toList.map (ev t)) with
       | none=>rw [hrow] at h;exact h.elim
       | some i=>
        rw [hrow] at h
        simp only [] at h
        cases hri:(m.rows[i]?).join with
        | none=>rw [hri] at h;exact h.elim
        | some r=>
         rw [hri] at h
         obtain ⟨hcall,h⟩:=h
         have hri':=join_eq hri
         obtain ⟨v,hv,ho⟩:=hm.row i r hri'
         refine run g cs he hcall (h β ρ w (args.toList.map a.eval++cs) v hm (hargs.app hcaps) hv ho) fun e' w' hw'=>?_
         obtain ⟨b,u,fs,n,ys,rfl,hgr,ho',hbu,hn,h⟩:=hw'
         have hfs:fs=[]∨(bif b then u else v).ownBlock=v.ownBlock:=by
          cases b with
          | true=>
           rcases hbu rfl with h0 | h0
           ·exact .inr h0
           ·exact .inl h0.1
          | false=>exact .inr rfl
         have hwhere:∀g,(bif b then u else v).ownBlock=some g→v.ownBlock=some g∨(w.heap.size≤g∧g<w'.heap.size):=by
          intro g hgg
          cases b with
          | true=>
           rcases hbu rfl with h0 | h0
           ·exact .inl (h0▸hgg)
           ·rcases h0.2 g hgg with h1 | h1
            ·exact .inl h1
            ·exact .inr ⟨h1,(ho'.lt g hgg).2⟩
          | false=>exact .inl hgg
         obtain ⟨hm',hr'⟩:=hm.append hri' hv ho' hgr hwhere t a.tmps.toList hr (bif b then gi i .any else id) (by cases b with | true=>exact uG i u | false=>exact fun x y h=>by show Rel β (ρ.set i v) x y;rw [s8 hv];exact h)
         have hm2:=hm'.eA fs (fun φ hφ g' hg'=>by
          obtain ⟨h1,h2⟩:=hn φ hφ g' hg'
          refine ⟨?_,h2⟩
          obtain ⟨a1,a2⟩:=hm.apart h1
          refine ⟨fun b' hb'=>kQ (a1 b' hb'),fun j u2 hu2 hug=>?_⟩
          rw [List.getElem?_set] at hu2
          by_cases hij:i=j
          ·subst hij
           rw [if_pos rfl,if_pos (List.getElem?_eq_some_iff.1 hv).1] at hu2
           cases hu2
           rcases hfs with rfl | hwh
           ·cases hφ
           rw [hwh] at hug
           have:=a2 i v hv hug
           rw [hri] at this
           cases this
          ·rw [if_neg hij] at hu2
           show ((m.rows.set i _)[j]?).join=none
           rw [List.getElem?_set,if_neg hij]
           exact a2 j u2 hu2 hug)
         cases b with
         | true=>exact ⟨u,rfl,hK _ _ _ _ _ _ _ h hm2 hr' (by show (ρ.set i u)[i]?=some u;rw [List.getElem?_set,if_pos rfl,if_pos (List.getElem?_eq_some_iff.1 hv).1]) (.inl (.inr (hquiet (by simp))))⟩
         | false=>
          have hset:ρ.set i v=ρ:=by
           apply List.ext_getElem?
           intro j
           rw [List.getElem?_set]
           by_cases hij:i=j
           ·subst hij;rw [if_pos rfl,if_pos (List.getElem?_eq_some_iff.1 hv).1,hv]
           ·rw [if_neg hij]
          have hm2:Mem W G { m with rows:=m.rows.set i (some ⟨r.e,r.size,n,ys⟩),facts:=fs++m.facts } β (ρ.set i v) w':=by
           have h0:=qj { m with rows:=m.rows.set i (some ⟨r.e,r.size,n,ys⟩) }
           have h1:Mem W G ((M.bP { m with rows:=m.rows.set i (some ⟨r.e,r.size,n,ys⟩) } id).eA fs) β (ρ.set i v) w':=hm2
           rw [h0] at h1
           exact h1
          refine ⟨u,rfl,hK _ _ _ _ _ _ _ h hm2 ?_ rfl (.inl (.inr (hquiet (by simp))))⟩
          show ak β (ρ.set i v) t a.tmps.toList
          rw [hset]
          exact hr
    have dyn:(match ev t f with
      | .v (.func (.func g) first caps)=>bif first.size==0 then jq E true g (args.toList.map (ev t)) (caps.toList.map .v) m t k else bif caps.size==0 then bW (args.toList.map (ev t)) m t (fun xs m t=>.call g (first.toList.map .v++xs) m (fun v fs=>k (m.eA fs) t (.v v))) else .bad "call: bound"
      | .fn g caps=>jq E true g (args.toList.map (ev t)) (caps.map fun c=>.p c.1 c.2) m t k
      | _=>.bad "call" : Tree).aD P W G Q ds→Oper.wp P ⟨dst,.call ⟨.value f,args,argTypes⟩,ty',pos,after,guard⟩ a w K Q':=by
     clear h
     intro h
     cases e:ev t f with
     | v u=>
      rw [e] at h hf
      have hf:a.eval f=u:=hf
      cases u with
      | func fn first caps=>
       cases fn with
       | func g=>
        simp only [] at h
        cases hb:(first.size==0) with
        | false=>
         rw [hb] at h
         cases hc:(caps.size==0) with
         | false=>rw [hc] at h;exact h.elim
         | true=>
          rw [hc] at h
          have:caps = #[]:=by simpa using hc
          subst this
          obtain ⟨xs,m',t',h,hm',hr',hxs⟩:=bM _ _ hm hr hargs h
          obtain ⟨hcall,h⟩:=h
          refine runB g first hf hcall (h β ρ w (first.toList++args.toList.map a.eval) hm' ((ak.vals first.toList).app hxs)) fun e w' hw'=>?_
          obtain ⟨v,fs,rfl,hb,hn,h⟩:=hw'
          refine ⟨v,rfl,hK _ _ _ _ _ _ _ h ((hm'.grow hb).eA fs fun φ hφ g' hg'=>?_) hr' rfl (iO.vO hb)⟩
          obtain ⟨h1,h2⟩:=hn φ hφ g' hg'
          exact ⟨hm'.apart h1,h2⟩
        | true=>
         rw [hb] at h
         have:first = #[]:=by simpa using hb
         subst this
         exact go true g _ caps.toList (by simpa using hf) (ak.vals _) h
       | _=>exact h.elim
      | _=>exact h.elim
     | fn g caps=>
      rw [e] at h hf
      obtain ⟨cs,hcs,hl,hc⟩:=hf
      refine go true g _ cs hcs ⟨by simp [hl],fun i x hx=>?_⟩ h
      rw [List.getElem?_map] at hx
      cases hi:caps[i]? with
      | none=>rw [hi] at hx;cases hx
      | some c=>
       rw [hi] at hx
       obtain ⟨u,hu,hp⟩:=hc i c hi
       simp only [Option.map_some,Option.some.injEq] at hx
       subst hx
       exact ⟨u,hu,hp⟩
     | _=>rw [e] at h;exact h.elim
    cases f with
    | func g=>exact go false g [] [] rfl ak.nil (by simpa only [step0] using h)
    | tmp _=>exact dyn h
    | const _=>exact dyn h
    | global _=>exact dyn h
   | builtin b=>
    cases b with
    | len=>cases ho
    | cap=>cases ho
    | max=>cases ho
    | min=>cases ho
    | complex=>cases ho
    | real=>cases ho
    | imag=>cases ho
    | clear=>
     simp only [step0] at h
     cases hl:args.toList with
     | nil=>rw [hl] at h;exact h.elim
     | cons x l=>
     cases l with
     | cons _ _=>rw [hl] at h;exact h.elim
     | nil=>
     cases hty:argTypes.toList with
     | nil=>rw [hl,hty] at h;exact h.elim
     | cons ty l2=>
     cases l2 with
     | cons _ _=>rw [hl,hty] at h;exact h.elim
     | nil=>
     rw [hl,hty] at h
     obtain rfl:args = #[x]:=by cases args;simp at hl;rw [hl]
     obtain rfl:argTypes = #[ty]:=by cases argTypes;simp at hty;rw [hty]
     have hx:=hr.ev x
     simp only [] at h
     cases e:ev t x with
     | w i lo sz=>
      rw [e] at h hx
      cases hrow:lk E.row ty with
      | none=>rw [hrow] at h;exact h.elim
      | some q=>
      obtain ⟨el,size,bytes⟩:=q
      rw [hrow] at h
      simp only [] at h
      cases hri:(m.rows[i]?).join with
      | none=>rw [hri] at h;exact h.elim
      | some r=>
      rw [hri] at h
      simp only [] at h
      cases hb:(r.e==el&&r.size==size&&sz==size && !E.quiet) with
      | false=>rw [hb] at h;exact h.elim
      | true=>
      rw [hb] at h
      simp only [Bool.and_eq_true,beq_iff_eq,Bool.not_eq_true'] at hb
      obtain ⟨⟨⟨hb1,hb2⟩,hb3⟩,hqf⟩:=hb
      obtain ⟨hu,inf,z,hinf,hz,hinfs,_,hzs,hs0⟩:=hE.row ty el size bytes hrow
      have hri':=join_eq hri
      obtain ⟨v,hv,hown⟩:=hm.row i r hri'
      obtain ⟨ad,n,c,hv',hlo,hxe⟩:=hx
      rw [hv] at hv'
      cases hv'
      rw [hb1,hb2] at hown
      have hset:ρ.set i (.slice ad n c)=ρ:=by
       apply List.ext_getElem?
       intro j
       rw [List.getElem?_set]
       by_cases hij:i=j
       ·subst hij;rw [if_pos rfl,if_pos (List.getElem?_eq_some_iff.1 hv).1,hv]
       ·rw [if_neg hij]
      have hnn:n=r.n:=by
       rcases hown.2 with ⟨h1,h0⟩ | ⟨g,cap,cur,h1,_⟩
       ·cases h1;omega
       ·cases h1;rfl
      subst hnn
      have key:∃w' ys,(execOp a.eval ⟨dst,.call ⟨.builtin .clear,#[x],#[ty]⟩,ty',pos,after,guard⟩).run P w=.ok (.value (.tuple #[])) w'∧ys.length=r.xs.length - lo*size∧w'.ownsRow 0 el size (.slice ad r.n c) r.n (r.xs.take (lo*size)++ys)∧w.grownBy w' (Value.slice ad r.n c).ownBlock:=by
       have hxl:=hown.1
       by_cases hln:r.n=lo
       ·refine ⟨w,[],?_,?_,?_,⟨rfl,rfl,rfl,Nat.le_refl _,fun _ _ _=>rfl⟩⟩
        ·have h0:r.n - lo=0:=by omega
         rw [h0] at hxe
         have:∀o,(Builtin.clear_ #[ty] ty' #[.slice o 0 (c - lo)]).run P w=.ok (.tuple #[]) w:=by
          intro o
          cases o <;> simp [Builtin.clear_,run_underlying hu]
         simp only [execOp,resolve,invoke,builtin,Sem.run_bind,Sem.run_pure,Result.andThen_ok,List.map_toArray,List.map_cons,List.map_nil,hxe,this]
        ·simp only [List.length_nil];rw [hxl,← hln];omega
        ·rw [List.append_nil,List.take_of_length_le (by rw [hxl,← hln];exact Nat.le_refl _)];exact hown
       ·rcases hown.2 with ⟨h1,h0⟩ | ⟨g,cap,cur,h1,hrest⟩
        ·have:=(Value.slice.inj h1).2.1;omega
        ·cases h1
         have hcl:¬ c=lo:=by have:=hrest.2.2.1;omega
         rw [if_neg hcl] at hxe
         simp only [Option.map_some,eW,Nat.zero_add] at hxe
         have hmul:lo*sz+(r.n - lo)*sz=r.n*sz:=by rw [← Nat.add_mul];congr 1;omega
         have hzl:(Builtin.zeroCells z.cells (r.n - lo)).toList.length=(r.n - lo)*size:=by simp [size_zeroCells,hzs]
         obtain ⟨w',hst,ho',hgr⟩:=vS (P:=P) hown rfl (lo*sz) (Builtin.zeroCells z.cells (r.n - lo)).toList (by rw [hzl,hxl,← hb3,hmul];omega) (uN (hE.row1 ty el size bytes hrow inf z hinf hz) (r.n - lo))
         refine ⟨w',(Builtin.zeroCells z.cells (r.n - lo)).toList,?_,?_,?_,hgr⟩
         ·have hn0:¬ (r.n - lo=0):=by omega
          obtain ⟨k',hk'⟩:∃k',r.n - lo=k'+1:=⟨r.n - lo - 1,by omega⟩
          rw [hk'] at hxe hst
          have:(Builtin.clear_ #[ty] ty' #[.slice (some ⟨g,lo*sz,none⟩) (k'+1) (c - lo)]).run P w=.ok (.tuple #[]) w':=by
           simp [Builtin.clear_,run_underlying hu,zeroValue,typeInfo,hinf,hz,hst]
          simp only [execOp,resolve,invoke,builtin,Sem.run_bind,Sem.run_pure,Result.andThen_ok,List.map_toArray,List.map_cons,List.map_nil,hxe,this]
         ·rw [hzl,hxl,← hb3];omega
         ·have:r.xs.take (lo*size)++(Builtin.zeroCells z.cells (r.n - lo)).toList=fI r.xs (lo*sz) (Builtin.zeroCells z.cells (r.n - lo)).toList:=by
           unfold fI
           rw [hzl,hb3,List.drop_eq_nil_of_le (by rw [hxl,← hb3];omega),List.append_nil]
          rw [this]
          exact ho'
      obtain ⟨w',ys,hrun,hyl,ho',hgr⟩:=key
      obtain ⟨hm',_⟩:=hm.append hri' hv ho' hgr (rD (.inl rfl)) t a.tmps.toList hr id (fun x y h=>by rw [s8 hv];exact h)
      rw [hset,qj] at hm'
      unfold Oper.wp
      rw [hrun]
      have h:=h ys hyl
      rw [hb1,hb2] at h
      exact hK _ _ _ _ _ _ _ h hm' hr rfl (.inl (.inr hqf))
     | _=>rw [e] at h;exact h.elim
    | append=>
     simp only [step0] at h
     cases hl:args.toList with
     | nil=>rw [hl] at h;exact h.elim
     | cons x l1=>
     cases l1 with
     | nil=>rw [hl] at h;exact h.elim
     | cons y l2=>
     cases l2 with
     | cons _ _=>rw [hl] at h;exact h.elim
     | nil=>
     cases hty:argTypes.toList with
     | nil=>rw [hl,hty] at h;exact h.elim
     | cons ty l3=>
     cases l3 with
     | nil=>rw [hl,hty] at h;exact h.elim
     | cons ty2 l4=>
     cases l4 with
     | cons _ _=>rw [hl,hty] at h;exact h.elim
     | nil=>
     rw [hl,hty] at h
     simp only [] at h
     obtain rfl:args = #[x,y]:=by cases args;simp at hl;rw [hl]
     obtain rfl:argTypes = #[ty,ty2]:=by cases argTypes;simp at hty;rw [hty]
     cases hrow:lk E.row ty with
     | none=>rw [hrow] at h;exact h.elim
     | some q=>
     obtain ⟨e,size,bytes⟩:=q
     rw [hrow] at h
     simp only [] at h
     cases htt:(ty==ty2) with
     | false=>
      rw [htt] at h
      simp only [cond_false] at h
      obtain ⟨ht,i,z,hi,hz,hsize,hby,hzs,hsz⟩:=hE.row ty e size bytes hrow
      cases hint:lk E.ints ty2 with
      | none=>rw [hint] at h;exact h.elim
      | some u0=>
      rw [hint] at h
      have hu2:=hE.ints ty2 u0 hint
      have hx:=hr.ev x
      have hy:=hr.ev y
      cases ex:ev t x with
      | v ux=>
       rw [ex] at h hx
       have hx:a.eval x=ux:=hx
       cases ey:ev t y with
       | v uy=>
        rw [ey] at h hy
        have hy:a.eval y=uy:=hy
        have hnil:ux=.slice none 0 0:=by
         cases ux with
         | slice ad n c=>cases ad with
          | none=>cases n with
           | zero=>cases c with
            | zero=>rfl
            | succ _=>exact h.elim
           | succ _=>exact h.elim
          | some _=>exact h.elim
         | _=>exact h.elim
        subst hnil
        cases uy with
        | int kd j=>
         cases kd with
         | i64=>
          simp only [] at h
          cases hq:E.quiet with
          | true=>rw [hq] at h;exact h.elim
          | false=>
           rw [hq] at h
           obtain ⟨⟨h0,hj,hbj⟩,h⟩:=h
           obtain ⟨v,w',xs,hrun,hxl,ho,hb⟩:=x9 (P:=P) (w:=w) ty ty2 ty' e i z size bytes ht hu2 hi hz hsize hby hzs hsz j h0 hj hbj
           unfold Oper.wp
           have:(execOp a.eval ⟨dst,.call ⟨.builtin .append,#[x,y],#[ty,ty2]⟩,ty',pos,after,guard⟩).run P w=.ok (.value v) w':=by
            simp [execOp,resolve,invoke,builtin,hx,hy,hrun]
           rw [this]
           refine hK _ _ _ _ _ _ _ (h xs hxl) ((hm.grow hb).wX ho hm.lo hm.rb (fun φ hφ g hg=>(hm.fact φ hφ g hg).2) hb.size hm.grown.size) (hr.ef _) ?_ (.inl (.inr hq))
           show (ρ++[v])[m.rows.length]?=some v
           rw [← hm.rl,List.getElem?_append_right (Nat.le_refl _)]
           simp
         | _=>exact h.elim
        | _=>exact h.elim
       | _=>
        rw [ey] at h
        cases ux with
        | slice ad n c=>cases ad with
         | none=>cases n with
          | zero=>cases c with
           | zero=>exact h.elim
           | succ _=>exact h.elim
          | succ _=>exact h.elim
         | some _=>exact h.elim
        | _=>exact h.elim
      | _=>rw [ex] at h;exact h.elim
     | true=>
     rw [htt] at h
     simp only [cond_true] at h
     cases hqt:E.quiet with
     | true=>rw [hqt] at h;exact h.elim
     | false=>
     rw [hqt] at h
     simp only [cond_false] at h
     obtain rfl:ty=ty2:=by simpa using htt
     obtain ⟨ht,i,z,hi,hz,hsize,hby,hzs,hsz⟩:=hE.row ty e size bytes hrow
     have go:∀(j:Nat) (r:Row) (m:M) (ρ:List Value),Mem W G m β ρ w→ak β ρ t a.tmps.toList→(m.rows[j]?).join=some r→r.e=e→r.size=size→ρ[j]?=some (a.eval x)→Rel β ρ (ev t y) (a.eval y)→
       (yo e size bytes j r (ev t y) m0 m t k).aD P W G Q ds→Oper.wp P ⟨dst,.call ⟨.builtin .append,#[x,y],#[ty,ty]⟩,ty',pos,after,guard⟩ a w K Q':=by
      intro j r m ρ hm hr hj hre hrs hx hy h
      have hj':=join_eq hj
      obtain ⟨v,hv,ho⟩:=hm.row j r hj'
      rw [hx] at hv
      obtain rfl:=Option.some.inj hv
      rw [hre,hrs] at ho
      have fin:∀(n c:Nat) (ad:Option Addr) (xs:List Value),a.eval y=.slice ad n c→xs.length=n*size→(∀u∈xs,u.oneCell'=true)→(∀a0,ad=some a0→∀(j:Nat) (u:Value),xs[j]?=some u→w.cell? (a0.add j)=some u)→(ad=none→n=0∧c=0)→
        r.n+n≤maxLen→(r.n+n)*bytes≤140737488355328→(k (M.bP { m with rows:=m.rows.set j (some ⟨e,size,r.n+n,r.xs++xs⟩) } (gi j .any)) (t.map (gi j .any)) (.r j)).aD P W G Q ds→Oper.wp P ⟨dst,.call ⟨.builtin .append,#[x,y],#[ty,ty]⟩,ty',pos,after,guard⟩ a w K Q':=by
       intro n c ad xs hya hxl hx1 hxc hxn hb1 hb2 h
       obtain ⟨v',w',hrun,hown,hgr,hwhere⟩:=nS (P:=P) (w:=w) ty ty' e i z size bytes ht hi hz hsize hby hzs hsz ho ad n c xs hxl hxc hx1 hxn hb1 hb2 (Nat.zero_le _)
       unfold Oper.wp
       have:(execOp a.eval ⟨dst,.call ⟨.builtin .append,#[x,y],#[ty,ty]⟩,ty',pos,after,guard⟩).run P w=.ok (.value v') w':=by
        simp [execOp,resolve,invoke,builtin,hya,hrun]
       rw [this]
       obtain ⟨hm',hre⟩:=hm.append hj' hx hown hgr (rD hwhere) t a.tmps.toList hr (gi j .any) (uG j v')
       exact hK _ _ _ _ _ _ _ h hm' hre (by show (ρ.set j v')[j]?=some v';rw [List.getElem?_set,if_pos rfl,if_pos (List.getElem?_eq_some_iff.1 hx).1]) (.inl (.inr hqt))
      cases ey:ev t y with
      | s b n=>
       rw [ey] at h hy
       simp only [yo] at h
       cases hc:m.cells b with
       | none=>rw [hc] at h;exact h.elim
       | some q=>
        obtain ⟨cs,e2⟩:=q
        rw [hc] at h
        simp only [] at h
        cases hvs:aH cs with
        | none=>rw [hvs] at h;exact h.elim
        | some vs=>
         rw [hvs] at h
         simp only [] at h
         cases hb:(vs.length==n*size) with
         | false=>rw [hb] at h;exact h.elim
         | true=>
          rw [hb] at h
          obtain ⟨⟨hb1,hb2⟩,h⟩:=h
          obtain ⟨g,hg,hya⟩:=hy
          obtain ⟨g',l',hg',hw,hl',hl1⟩:=hm.own b cs e2 (join_eq hc)
          rw [hg] at hg'
          obtain rfl:=Option.some.inj hg'
          have e1:=aE _ _ _ hvs hl'
          subst e1
          refine fin n n _ l' hya (by simpa using hb) hl1 (fun a0 ha0 j u hu=>?_) (fun hn=>by cases hn) hb1 hb2 h
          cases ha0
          rw [eW]
          simp [World.cell?,hw,hu]
      | v u=>
       rw [ey] at h hy
       have hy:a.eval y=u:=hy
       cases u with
       | slice ad n c=>
        obtain ⟨xs,hxl,hx1,hxc,⟨hb1,hb2,hxn⟩,h⟩:=h
        exact fin n c ad xs hy hxl hx1 (fun a0 ha0=>hxc _ _ w hm a0 ha0) hxn hb1 hb2 h
       | _=>exact h.elim
      | _=>rw [ey] at h;exact h.elim
     have hx:=hr.ev x
     cases ex:ev t x with
     | r j=>
      rw [ex] at h hx
      simp only [Dv] at h
      cases hj:(m.rows[j]?).join with
      | none=>rw [hj] at h;exact h.elim
      | some r=>
       rw [hj] at h
       simp only [] at h
       cases hb:(r.e==e&&r.size==size) with
       | false=>rw [hb] at h;exact h.elim
       | true=>
        rw [hb] at h
        simp only [Bool.and_eq_true,beq_iff_eq] at hb
        exact go j r m ρ hm hr hj hb.1 hb.2 hx (hr.ev y) h
     | v u=>
      rw [ex] at h hx
      have hx:a.eval x=u:=hx
      have hnil:u=.slice none 0 0:=by
       cases u with
       | slice ad n c=>cases ad with
        | none=>cases n with
         | zero=>cases c with
          | zero=>rfl
          | succ _=>exact h.elim
         | succ _=>exact h.elim
        | some _=>exact h.elim
       | _=>exact h.elim
      subst hnil
      simp only [Dv] at h
      have hm2:=hm.newRow e size
      refine go m.rows.length _ _ _ hm2 (hr.ef _) ?_ rfl rfl ?_ ((hr.ev y).ef _) h
      ·simp
      ·rw [hx,← hm.rl,List.getElem?_append_right (Nat.le_refl _)];simp
     | _=>rw [ex] at h;exact h.elim
    | _=>exact h.elim
   | invoke r n=>
    have hx:=hr.ev r
    simp only [step0] at h
    cases e:ev t r with
    | v u=>
     rw [e] at h hx
     have hx:a.eval r=u:=hx
     cases u with
     | iface ty v=>
      simp only [] at h
      cases hg:lk E.meth (ty,n) with
      | none=>rw [hg] at h;exact h.elim
      | some g=>
       rw [hg] at h
       have hmeth:=hE.meth ty n g hg v w
       have ha2:ak β ρ (.v v::args.toList.map (ev t)) (v::args.toList.map a.eval):=ak.cons (show Rel β ρ (.v v) v from rfl) hargs
       obtain ⟨xs,m',t',h,hm',hr',hxs⟩:=bM _ _ hm hr ha2 h
       obtain ⟨hcall,h⟩:=h
       have hC:=h β ρ w (v::args.toList.map a.eval) hm' hxs
       unfold aP at hcall
       cases hfn:P.funcs[g]? with
       | none=>rw [hfn] at hcall;cases hcall
       | some fn=>
        rw [hfn] at hcall
        simp only [Bool.and_eq_true,Bool.not_eq_true',Option.isSome_iff_ne_none] at hcall
        unfold Oper.wp
        have:(execOp a.eval ⟨dst,.call ⟨.invoke r n,args,argTypes⟩,ty',pos,after,guard⟩).run P w=.ok (.enter g (List.toArray (v::args.toList.map a.eval))) w:=by
         have hb:fn.body≠none:=hcall.2
         have hn:¬ fn.name = "runtime.NumGoroutine":=by simpa using hcall.1
         have hx2:(#[Value.iface ty v]++args.map a.eval).extract 1 (#[Value.iface ty v]++args.map a.eval).size=args.map a.eval:=by rw [Array.extract_append];simp
         have hx0:(#[Value.iface ty v]++args.map a.eval)[0]?=some (.iface ty v):=by cases args;simp
         simp only [execOp,resolve,hx,Sem.run_bind,Sem.run_pure,Result.andThen_ok,invoke,hx0,hx2,callMethod,run_program,hmeth,callFunc,hfn]
         rw [if_neg (by simpa using hn),if_neg (by simpa using hb)]
         simp
        rw [this]
        refine hC.mono fun e w' hw'=>?_
        obtain ⟨v',fs,rfl,hb,hn,h⟩:=hw'
        refine hK _ _ _ _ _ _ _ h ((hm'.grow hb).eA fs fun φ hφ g' hg'=>?_) hr' rfl (iO.vO hb)
        obtain ⟨h1,h2⟩:=hn φ hφ g' hg'
        exact ⟨hm'.apart h1,h2⟩
     | _=>exact h.elim
    | _=>rw [e] at h;exact h.elim
  | slice ty x lo hi mx=>
   have hx:=hr.ev x
   cases mx with
   | some _=>exact h.elim
   | none=>
   have hquiet:E.quiet=false:=ho
   simp only [step0,hquiet,Bool.not_false,Bool.and_true] at h
   have done:∀v,(execOp a.eval ⟨dst,.slice ty x lo hi none,ty',pos,after,guard⟩).run P w=.ok (.value v) w→(k m t (.v v)).aD P W G Q ds→Oper.wp P ⟨dst,.slice ty x lo hi none,ty',pos,after,guard⟩ a w K Q':=by
    intro v hv h
    unfold Oper.wp
    rw [hv]
    exact hK _ _ _ _ _ _ _ h hm hr rfl (iO.vO (Below.refl _ _))
   cases e:ev t x with
   | v u=>
    rw [e] at h hx
    have hx:a.eval x=u:=hx
    cases lo with
    | none=>
     cases hi with
     | none=>exact h.elim
     | some b=>
      simp only [] at h
      have hb:=hr.ev b
      cases eb:ev t b with
      | v ub=>
       rw [eb] at h hb
       have hb:a.eval b=ub:=hb
       obtain ⟨v,hv,h⟩:=h
       exact done v (by simp only [execOp,hx,Option.map_some,Option.map_none,hb];exact hv w) h
      | _=>rw [eb] at h;exact h.elim
    | some b=>
     cases hi with
     | some _=>exact h.elim
     | none=>
      simp only [] at h
      have hb:=hr.ev b
      cases eb:ev t b with
      | v ub=>
       rw [eb] at h hb
       have hb:a.eval b=ub:=hb
       obtain ⟨v,hv,h⟩:=h
       exact done v (by simp only [execOp,hx,Option.map_some,Option.map_none,hb];exact hv w) h
      | _=>rw [eb] at h;exact h.elim
   | r i=>
    rw [e] at h hx
    cases lo with
    | some lb=>
     cases hi with
     | some _=>exact h.elim
     | none=>
      simp only [] at h
      have hb:=hr.ev lb
      cases hri:(m.rows[i]?).join with
      | none=>rw [hri] at h;exact h.elim
      | some r=>
      cases eb:ev t lb with
      | v ub=>
       rw [hri,eb] at h
       rw [eb] at hb
       have hb:a.eval lb=ub:=hb
       cases ub with
       | int kd j=>
        cases kd with
        | i64=>
         cases hrow:lk E.row ty with
         | none=>rw [hrow] at h;exact h.elim
         | some q=>
          obtain ⟨el,size,bytes⟩:=q
          rw [hrow] at h
          simp only [] at h
          cases hsz:(r.size==size) with
          | false=>rw [hsz] at h;exact h.elim
          | true=>
           rw [hsz] at h
           obtain ⟨⟨h0,h1⟩,h⟩:=h
           obtain ⟨hu,inf,z,hinf,_,hinfs,_,_,_⟩:=hE.row ty el size bytes hrow
           obtain ⟨v,hv,hown⟩:=hm.row i r (join_eq hri)
           have hx:ρ[i]?=some (a.eval x):=hx
           rw [hv] at hx
           have hx:=Option.some.inj hx
           obtain ⟨ad,cp,hvs⟩:∃ad cp,v=.slice ad r.n cp:=by
            rcases hown.2 with ⟨rfl,h0⟩ | ⟨g,cap,cur,rfl,_⟩
            ·exact ⟨none,0,by rw [h0]⟩
            ·exact ⟨_,_,rfl⟩
           have hjn:j.toNat≤r.n:=by omega
           unfold Oper.wp
           have:(execOp a.eval ⟨dst,.slice ty x (some lb) none none,ty',pos,after,guard⟩).run P w=.ok (.value (.slice (if cp=j.toNat then ad else ad.map fun x=>x.add (j.toNat*size)) (r.n - j.toNat) (cp - j.toNat))) w:=by
            simp [execOp,← hx,hvs,hb,Instr.sliceAt,run_underlying hu,Instr.slice,Instr.sliceBounds,Instr.sliceBound,asIntOf,sizeOf,typeInfo,hinf,hinfs,h0,h1]
           rw [this]
           exact hK _ _ _ _ _ _ _ h hm hr ⟨ad,r.n,cp,by rw [hv,hvs],hjn,rfl⟩ (iO.vO (Below.refl _ _))
        | _=>exact h.elim
       | _=>exact h.elim
      | _=>rw [hri,eb] at h;exact h.elim
    | none=>
     cases hi with
     | none=>exact h.elim
     | some b=>
      simp only [] at h
      have hb:=hr.ev b
      cases hri:(m.rows[i]?).join with
      | none=>rw [hri] at h;exact h.elim
      | some r=>
      cases eb:ev t b with
      | v ub=>
       rw [hri,eb] at h
       rw [eb] at hb
       have hb:a.eval b=ub:=hb
       cases ub with
       | int kd j=>
        cases kd with
        | i64=>
         cases hrow:lk E.row ty with
         | none=>rw [hrow] at h;exact h.elim
         | some q=>
          obtain ⟨el,size,bytes⟩:=q
          rw [hrow] at h
          simp only [] at h
          cases hsz:(r.size==size) with
          | false=>rw [hsz] at h;exact h.elim
          | true=>
           rw [hsz] at h
           obtain ⟨⟨h0,h1⟩,h⟩:=h
           have hsz:r.size=size:=by simpa using hsz
           obtain ⟨hu,inf,z,hinf,_,hinfs,_,_,_⟩:=hE.row ty el size bytes hrow
           have hri':=join_eq hri
           obtain ⟨v,hv,hown⟩:=hm.row i r hri'
           have hx:ρ[i]?=some (a.eval x):=hx
           rw [hv] at hx
           have hx:=Option.some.inj hx
           have key:∃v',(execOp a.eval ⟨dst,.slice ty x none (some b) none,ty',pos,after,guard⟩).run P w=.ok (.value v') w∧w.ownsRow 0 r.e r.size v' j.toNat (r.xs.take (j.toNat*size))∧v'.ownBlock=v.ownBlock:=by
            rcases hown.2 with ⟨rfl,hn0⟩ | ⟨g,cap,cur,rfl,hbb,hw,hn,hc,hcs,ht⟩
            ·obtain rfl:j=0:=by omega
             refine ⟨.slice none 0 0,?_,?_,rfl⟩
             ·simp [execOp,← hx,hb,Instr.sliceAt,run_underlying hu,Instr.slice,Instr.sliceBounds,Instr.sliceBound,asIntOf,sizeOf,typeInfo,hinf]
             ·have:r.xs=[]:=List.eq_nil_of_length_eq_zero (by have:=hown.1;rw [hn0] at this;simpa using this)
              rw [this]
              simpa using World.ownsRow_nil w 0 r.e r.size
            ·refine ⟨.slice (some ⟨g,0,none⟩) j.toNat cap,?_,⟨?_,.inr ⟨g,cap,cur,rfl,hbb,hw,by omega,hc,hcs,?_⟩⟩,rfl⟩
             ·have hjc:j≤(cap:Int):=by omega
              simp [execOp,← hx,hb,Instr.sliceAt,run_underlying hu,Instr.slice,Instr.sliceBounds,Instr.sliceBound,asIntOf,sizeOf,typeInfo,hinf,h0,hjc,Addr.add_zero']
             ·rw [List.length_take,hown.1,hsz]
              have:=Nat.mul_le_mul_right size (show j.toNat≤r.n by omega)
              omega
             ·rw [← ht,List.take_take,hsz]
              have:=Nat.mul_le_mul_right size (show j.toNat≤r.n by omega)
              rw [Nat.min_eq_left this]
           obtain ⟨v',hrun,hown',hblk⟩:=key
           obtain ⟨hm',hr'⟩:=hm.append hri' hv hown' ⟨rfl,rfl,rfl,Nat.le_refl _,fun _ _ _=>rfl⟩ (rD (.inl hblk)) t a.tmps.toList hr (gi i .any) (uG i v')
           unfold Oper.wp
           rw [hrun]
           exact hK _ _ _ _ _ _ _ h hm' hr' (by show (ρ.set i v')[i]?=some v';rw [List.getElem?_set,if_pos rfl,if_pos (List.getElem?_eq_some_iff.1 hv).1]) (.inl (.inr hquiet))
        | _=>exact h.elim
       | _=>exact h.elim
      | _=>rw [hri,eb] at h;exact h.elim
   | _=>rw [e] at h;exact h.elim
  | makeSlice ty l c=>
   simp only [step0] at h
   have hl:=hr.ev l
   have hc:=hr.ev c
   cases hrow:lk E.row ty with
   | none=>rw [hrow] at h;exact h.elim
   | some q=>
    obtain ⟨el,size,bytes⟩:=q
    rw [hrow] at h
    cases e1:ev t l with
    | v u=>
     rw [e1] at h hl
     cases u with
     | int k1 j=>
      cases k1 with
      | i64=>
       cases e2:ev t c with
       | v u2=>
        rw [e2] at h hc
        cases u2 with
        | int k2 c2=>
         cases k2 with
         | i64=>
          have hl:a.eval l=_:=hl
          have hc:a.eval c=_:=hc
          simp only [] at h
          cases hz:lk E.zero el with
          | none=>rw [hz] at h;exact h.elim
          | some zt=>
           rw [hz] at h
           simp only [Option.bind_some] at h
           cases hzs:aH zt with
           | none=>rw [hzs] at h;exact h.elim
           | some zs=>
            rw [hzs] at h
            simp only [] at h
            cases hb:(zs.length==size&&dF (zs.map .v)&&(!E.quiet||E.made)) with
            | false=>rw [hb] at h;exact h.elim
            | true=>
             rw [hb] at h
             simp only [Bool.and_eq_true,beq_iff_eq] at hb
             obtain ⟨⟨hb1,_⟩,hq⟩:=hb
             obtain ⟨⟨h0,rfl,hj,hby⟩,h⟩:=h
             obtain ⟨hu,inf,z,hinf,hinfz,hinfs,hinfb,hzsz,hs0⟩:=hE.row ty el size bytes hrow
             obtain ⟨z',hzrun,hzrel,_⟩:=hE.zero el zt hz
             have hzz:z'=z:=by
              have h1:(zeroValue el).run P w=.ok z w:=by simp [zeroValue,typeInfo,hinf,hinfz,Sem.run_bind]
              rw [hzrun] at h1
              exact (Result.ok.inj h1).1
             subst hzz
             have hzl:=aE _ _ _ hzs hzrel
             have hbj:(inf.bytes:Int)*j≤281474976710656:=by
              have h3:((bytes*j.toNat:Nat):Int)=bytes*j:=by rw [Int.natCast_mul,Int.toNat_of_nonneg h0]
              rw [hinfb]
              omega
             have hrun:=run_make (P:=P) w ty el inf z' hu hinf hinfz .i64 .i64 j j h0 (Int.le_refl _) hbj (by omega)
             rw [hinfs] at hrun
             have hcells:madeCells z'.cells (j.toNat*size)=(eG j.toNat zs).toArray:=by
              rw [← hzl,← tQ j.toNat size z'.cells hzsz]
              unfold madeCells
              rw [hzsz]
             rw [hcells] at hrun
             have hrl:(eG j.toNat zs).length=j.toNat*size:=by rw [iJ,hb1]
             have hx:(execOp a.eval ⟨dst,.makeSlice ty l c,ty',pos,after,guard⟩).run P w=.ok (.value (.slice (some ⟨w.heap.size,0,none⟩) j.toNat j.toNat)) (w.alloc (.cells (eG j.toNat zs).toArray el)):=by
              simp only [execOp,hl,hc,Sem.run_bind,hrun,Result.andThen_ok]
              rfl
             unfold Oper.wp
             rw [hx]
             have hbel:Below w.heap.size w (w.alloc (.cells (eG j.toNat zs).toArray el)):=(Below.refl _ _).alloc (Nat.le_refl _) _
             have ho:(w.alloc (.cells (eG j.toNat zs).toArray el)).ownsRow w.heap.size el size (.slice (some ⟨w.heap.size,0,none⟩) j.toNat j.toNat) j.toNat (eG j.toNat zs):=
              ⟨hrl,.inr ⟨w.heap.size,j.toNat,(eG j.toNat zs).toArray,rfl,Nat.le_refl _,heap_alloc_new w _,Nat.le_refl _,by unfold maxLen;omega,by simpa using hrl,by simp [← hrl]⟩⟩
             refine hK _ _ _ _ _ _ _ h ((hm.grow hbel).wX ho hm.lo hm.rb (fun φ hφ g hg=>(hm.fact φ hφ g hg).2) hbel.size hm.grown.size) (hr.ef _) ?_ (.inr ⟨⟨[_],rfl⟩,⟨[],by simp,by simp⟩,.inl hbel⟩)
             show (ρ++[_])[m.rows.length]?=some _
             rw [← hm.rl,List.getElem?_append_right (Nat.le_refl _)]
             simp
         | _=>exact h.elim
        | _=>exact h.elim
       | _=>rw [e2] at h;exact h.elim
      | _=>exact h.elim
     | _=>exact h.elim
    | _=>rw [e1] at h;exact h.elim
  | buildSlice ty n parts=>
   simp only [step0] at h
   cases hrow:lk E.row ty with
   | none=>rw [hrow] at h;exact h.elim
   | some q=>
    obtain ⟨el,size,bytes⟩:=q
    rw [hrow] at h
    simp only [] at h
    obtain ⟨hu,inf,z,hinf,hinfz,hinfs,_,hzs,hs0⟩:=hE.row ty el size bytes hrow
    cases hn0:(n==0) with
    | true=>
     rw [hn0] at h
     simp only [cond_true] at h
     obtain rfl:n=0:=by simpa using hn0
     cases hq:(E.quiet||parts.size != 0) with
     | true=>rw [hq] at h;exact h.elim
     | false=>
      rw [hq] at h
      simp only [Bool.or_eq_false_iff,bne_eq_false_iff_eq] at hq
      have hp:parts = #[]:=by simpa using hq.2
      subst hp
      have hrun:(execOp a.eval ⟨dst,.buildSlice ty 0 #[],ty',pos,after,guard⟩).run P w=.ok (.value (.slice (some ⟨w.heap.size,0,none⟩) 0 0)) (w.alloc (.cells #[] el (0,0))):=by
       simp [execOp,Instr.buildSlice,run_underlying hu,sizeOf,typeInfo,hinf,Instr.fill,newRow,Array.range_zero']
      unfold Oper.wp
      rw [hrun]
      have hb:Below w.heap.size w (w.alloc (.cells #[] el (0,0))):=(Below.refl _ _).alloc (Nat.le_refl _) _
      have ho:=World.ownsRow_made (base:=w.heap.size) (e:=el) (size:=size) w #[] 0 (Nat.le_refl _) (by simp) (by simp)
      refine hK _ _ _ _ _ _ _ h ((hm.grow hb).wX ho hm.lo hm.rb (fun φ hφ g hg=>(hm.fact φ hφ g hg).2) hb.size hm.grown.size) (hr.ef _) ?_ (.inl (.inr hq.1))
      show (ρ++[_])[m.rows.length]?=some _
      rw [← hm.rl,List.getElem?_append_right (Nat.le_refl _)]
      simp
    | false=>
     rw [hn0] at h
     simp only [cond_false] at h
     cases hz:lk E.zero el with
     | none=>rw [hz] at h;exact h.elim
     | some zt=>
      rw [hz] at h
      simp only [] at h
      cases hf:nX (eu n size 0) (eG n zt) (parts.toList.map fun q=>(q.1,ev t q.2)) with
      | none=>rw [hf] at h;exact h.elim
      | some cs=>
       rw [hf] at h
       simp only [] at h
       cases hb:(dF cs&&zt.length==size&&Nat.ble (n*size) 1000) with
       | false=>rw [hb] at h;exact h.elim
       | true=>
        rw [hb] at h
        simp only [Bool.and_eq_true,beq_iff_eq,Nat.ble_eq] at hb
        obtain ⟨⟨hb1,hb2⟩,hb3⟩:=hb
        obtain ⟨z',hzrun,hzrel,_⟩:=hE.zero el zt hz
        have hzrel':ak β ρ zt z'.cells.toList:=by
         have:=(hzrel.rQ β).iF ρ
         simpa using this
        have hzl:z'.cells.size=size:=by
         have:=hzrel.1
         simp only [Array.length_toList] at this
         omega
        obtain ⟨l',hl',hrl⟩:=pG (β:=β) (ρ:=ρ) (eu n size 0) (fun i=>some (i*size,size)) (fun i q hq=>by rw [mS n size 0 i q hq];simp) (a:=a) (t:=t) hr parts.toList _ cs (eG n z'.cells.toList) (vp n hzrel') hf
        have h1:=jx cs _ hb1 hrl
        have hA:=hm.alloc cs el l' hrl h1
        have hbase:(Array.range (n*size)).map (fun i=>z'.cells[i % z'.cells.size]!)=(eG n z'.cells.toList).toArray:=by
         rw [hzl]
         exact tQ n size z'.cells hzl
        have hrun:(execOp a.eval ⟨dst,.buildSlice ty n parts,ty',pos,after,guard⟩).run P w=.ok (.value (.slice (some ⟨w.heap.size,0,none⟩) n n)) (w.alloc (.cells l'.toArray el (0,0))):=by
         have hns:¬ n*size=0:=by
          have:n≠0:=by simpa using hn0
          intro h0
          rcases Nat.mul_eq_zero.1 h0 with h0 | h0 <;> omega
         have h24:¬ (16777216<n*size):=by omega
         have hfill:Instr.fill (fun i=>some (i*size,size)) ((Array.range (n*size)).map (fun i=>z'.cells[i % z'.cells.size]!)) (parts.map fun q=>(q.1,a.eval q.2)).toList=some l'.toArray:=by
          rw [hbase]
          simpa using hl'
         have hz2:(zeroValue el).run P w=.ok z' w:=by rw [hzrun]
         simp only [execOp,Instr.buildSlice,Sem.run_bind,run_underlying hu,Result.andThen_ok,sizeOf,typeInfo,run_program,hinf,Sem.run_pure,hinfs,if_neg hns]
         simp only [Nat.reducePow,if_neg h24,Sem.run_bind,Sem.run_pure,Result.andThen_ok,hz2,hfill]
         rfl
        unfold Oper.wp
        rw [hrun]
        refine hK _ _ _ _ _ _ _ h hA (hr.more _) ⟨w.heap.size,?_,rfl⟩ (iO.grow ((Below.refl _ _).alloc (Nat.le_refl _) _) (by simp))
        rw [← hm.bl,List.getElem?_append_right (Nat.le_refl _)]
        simp
  | _=>first | exact h.elim | (cases ho)
def D6 {E:Env} {o:Oper} {m:M} {t:List T} {β ρ} {w:World} {l:List T} {a:Act} (hm:Mem W G m β ρ w) (hr:ak β ρ t a.tmps.toList) (h:jT E o m t=some l):∃ys,ak β ρ l ys:=by
 unfold jT at h
 split at h
 ·rename_i parts _
  cases hb:(parts.toList.map fun q=>ev t q.2).any LS with
  | false=>rw [hb] at h;cases h
  | true=>
   rw [hb] at h
   cases h
   refine ⟨parts.toList.map fun q=>a.eval q.2,by simp,fun i x hx=>?_⟩
   rw [List.getElem?_map] at hx ⊢
   cases hp:parts.toList[i]? with
   | none=>rw [hp] at hx;cases hx
   | some q=>rw [hp] at hx;cases hx;exact ⟨_,rfl,hr.ev q.2⟩
 ·rename_i parts _
  cases hb:(parts.toList.map fun q=>ev t q.2).any AV with
  | false=>rw [hb] at h;cases h
  | true=>
   rw [hb] at h
   cases h
   refine ⟨parts.toList.map fun q=>a.eval q.2,by simp,fun i x hx=>?_⟩
   rw [List.getElem?_map] at hx ⊢
   cases hp:parts.toList[i]? with
   | none=>rw [hp] at hx;cases hx
   | some q=>rw [hp] at hx;cases hx;exact ⟨_,rfl,hr.ev q.2⟩
 ·split at h
  ·rename_i b off _
   split at h
   ·rename_i cs e n hc hn
    cases hb:((cs.drop off).take n).any AV with
    | false=>rw [hb] at h;cases h
    | true=>
     rw [hb] at h
     cases h
     obtain ⟨g,l0,_,_,hl,_⟩:=hm.own b cs e (join_eq hc)
     exact ⟨_,(hl.drop off).take n⟩
   ·cases h
  ·cases h
 ·rename_i x _
  split at h
  ·cases hb:AV (ev t x) with
   | false=>rw [hb] at h;cases h
   | true=>
    rw [hb] at h
    cases h
    exact ⟨_,ak.one (hr.ev x)⟩
  ·cases h
 ·rename_i x _ _
  split at h
  ·rename_i b n hx
   cases h
   exact ⟨_,ak.one (hx▸hr.ev x)⟩
  ·cases h
 ·cases h
def AJ {o:Oper} {t:List T} {β ρ} {l:List T} {a:Act} (hr:ak β ρ t a.tmps.toList) (h:qL o t=some l):∃ys,ak β ρ l ys:=by
 unfold qL at h
 split at h
 ·rename_i parts _
  cases hb:(parts.toList.map fun q=>ev t q.2).any AV with
  | false=>rw [hb] at h;cases h
  | true=>
   rw [hb] at h
   cases h
   refine ⟨parts.toList.map fun q=>a.eval q.2,by simp,fun i x hx=>?_⟩
   rw [List.getElem?_map] at hx ⊢
   cases hp:parts.toList[i]? with
   | none=>rw [hp] at hx;cases hx
   | some q=>rw [hp] at hx;cases hx;exact ⟨_,rfl,hr.ev q.2⟩
 ·cases h
def nM (hE:E.Ok P) {o:Oper} {m:M} {t:List T} {β ρ} {a:Act} {w:World} {k:M→List T→T→Tree} {K:Act→World→Prop} {Q':Exit→Act→World→Prop}
  {m0:M} {β0 ρ0} (hβ:∃β1,β=β0++β1) (hρ:∃ρ1,ρ=ρ0++ρ1) (hl0:β0.length=m0.own.length) (hm0:Mem W G m0 β0 ρ0 w)
  (hm:Mem W G m β ρ w) (hr:ak β ρ t a.tmps.toList) (h:(step E o m0 m t k).aD P W G Q ds) (hK:Nz P W G Q ds E k o a β ρ w K):o.wp P a w K Q':=by
 unfold step at h
 cases hop:((bif E.quiet then E.bare else true)&&opens E t o) with
 | true=>
  rw [hop] at h
  simp only [] at h
  cases hqt:E.quiet with
  | true=>
   rw [hqt] at h hop
   have hbare:E.bare=true:=by
    cases hb:E.bare with
    | true=>rfl
    | false=>rw [hb] at hop;cases hop
   refine h β ρ a w hm hr K Q' fun m' t' x β' ρ' w' y h1 h2 h3 h4 h5=>hK _ _ _ _ _ _ _ h1 h2 h3 h4 ?_
   obtain ⟨rfl,rfl,h6⟩:=h5 _ rfl
   exact .inr ⟨⟨[],by simp⟩,⟨[],by simp,by simp⟩,h6.elim .inl (fun h6=>.inr (.inr ⟨hbare,h6⟩))⟩
  | false=>
   rw [hqt] at h
   simp only [] at h
   have plain:∀{m:M} {t:List T},Mem W G m β ρ w→ak β ρ t a.tmps.toList→(Tree.op none o m t k).aD P W G Q ds→o.wp P a w K Q':=fun hm hr h=>
    h β ρ a w hm hr K Q' fun m' t' x β' ρ' w' y h1 h2 h3 h4 _=>hK _ _ _ _ _ _ _ h1 h2 h3 h4 (.inl (.inr hqt))
   split at h
   ·rename_i c _
    have hargs:ak β ρ (c.args.toList.map (ev t)) (c.args.toList.map a.eval):=by
     refine ⟨by simp,fun i x hx=>?_⟩
     rw [List.getElem?_map] at hx ⊢
     cases hi:c.args.toList[i]? with
     | none=>rw [hi] at hx;cases hx
     | some q=>rw [hi] at hx;cases hx;exact ⟨_,rfl,hr.ev q⟩
    obtain ⟨_,m',t',h,hm',hr',_⟩:=bM _ _ hm hr hargs h
    exact plain hm' hr' h
   ·exact plain hm hr h
 | false=>
 rw [hop] at h
 simp only [] at h
 cases hqt:E.quiet with
 | true=>
  rw [hqt] at h
  simp only [] at h
  cases hq:(bif E.keep then qL o t else none) with
  | none=>
   rw [hq] at h
   simp only [] at h
   cases hsn:qN E o with
   | false=>rw [hsn] at h;exact gh hE hβ hρ hl0 hm0 hm hr h hK
   | true=>
    rw [hsn] at h
    refine gh hE hβ hρ hl0 hm0 hm hr h fun m' t' x β' ρ' w' y h1 h2 h3 h4 h5=>?_
    obtain ⟨x',m2,t2,h6,h7,h8,h9⟩:=cD h2 h3 h4 h1
    simp only [gO,bO] at h6
    exact hK _ _ _ _ _ _ _ h6 h7 h8 h9 h5
  | some l=>
   rw [hq] at h
   simp only [] at h
   have hh:qL o t=some l:=by
    cases hb:E.keep with
    | true=>rw [hb] at hq;exact hq
    | false=>rw [hb] at hq;cases hq
   obtain ⟨ys,hys⟩:=AJ hr hh
   obtain ⟨_,m',t',h,hm',hr',_⟩:=bM l ys hm hr hys h
   simp only [gO,bO] at h
   exact gh hE hβ hρ hl0 hm0 hm' hr' h hK
 | false=>
  rw [hqt] at h
  simp only [] at h
  cases hq:(bif E.keep then jT E o m t else none) with
  | none=>
   rw [hq] at h
   exact gh hE hβ hρ hl0 hm0 hm hr h hK
  | some l=>
   rw [hq] at h
   simp only [] at h
   have hh:jT E o m t=some l:=by
    cases hb:E.keep with
    | true=>rw [hb] at hq;exact hq
    | false=>rw [hb] at hq;cases hq
   obtain ⟨ys,hys⟩:=D6 hm hr hh
   obtain ⟨_,m',t',h,hm',hr',_⟩:=bM l ys hm hr hys h
   simp only [gO,bO] at h
   exact gh hE ⟨[],by simp⟩ ⟨[],by simp⟩ hm'.bl hm' hm' hr' h hK
def ai {p:Prop} {x:Tree} (hp:p) (h:x.aD P W G Q ds):(Tree.need p x).aD P W G Q ds:=⟨hp,h⟩
def aO {p:Prop} (hp:p):(Tree.done p).aD P W G Q ds:=hp
def av {v:Value} {m:M} (h:∀β ρ w,Mem W G m β ρ w→Q (.returned v) w):(Tree.ret v m).aD P W G Q ds:=h
def bV {n:Nat} {k:Option Addr→Nat→Tree} (h:∀a c,Sl a n c→sE W G a→(k a c).aD P W G Q ds):(Tree.share n k).aD P W G Q ds:=h
def b8 {s:Sem Next} {k:Value→Tree} (v:Value) (hv:∀w,s.run P w=.ok (.value v) w) (h:(k v).aD P W G Q ds):(Tree.prim s k).aD P W G Q ds:=⟨v,hv,h⟩
end
end Go.Proofs.YtdbjakibneeeiaaGreatDoor.Sx
