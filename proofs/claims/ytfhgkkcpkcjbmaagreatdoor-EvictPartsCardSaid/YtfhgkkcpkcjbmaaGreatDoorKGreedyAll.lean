/- Layer 12 (greedy), by contract: the line of an account. -/
import Derived.Test.YtfhgkkcpkcjbmaaGreatDoorKQueN
import Derived.Test.YtfhgkkcpkcjbmaaGreatDoorKBcOrd
import Derived.Test.YtfhgkkcpkcjbmaaGreatDoorKSxMM
import Derived.Test.YtfhgkkcpkcjbmaaGreatDoorKSxx
import Derived.Test.YtfhgkkcpkcjbmaaGreatDoorKFlS
import Derived.Test.YtfhgkkcpkcjbmaaGreatDoorKShP
set_option linter.all false
set_option maxHeartbeats 4000000
set_option maxRecDepth 100000
namespace Go.Proofs.YtfhgkkcpkcjbmaaGreatDoor.greedy
open Go.RowKit Sx txn queue
section
variable {P : Program} {W : World} {G : Option Nat} {Q : Ending → World → Prop} {ds : List Deferred}
theorem meet1F {f:FuncId} {args:List Sx.T} {l:List Value} {m:M} {k:Value→List Fact→Tree} {n:Nat} {v:Option Addr→Nat→Value} {xs:List Value} (hv:valsOf args=some l) (hc:callable P f=true)
  (hC:∀β ρ w,Mem W G m β ρ w→Calls P f (List.toArray l) w fun e w'=>∃i:One,Sl i.1 n i.2∧Gives w w' e (v i.1 i.2) [rowF (pt i.1 n) xs]) (h:∀a c,Sl a n c→(∀g,(rowF (pt a n) xs).g=some g→W.heap.size≤g)→(k (v a c) [rowF (pt a n) xs]).wpD P W G Q ds):(Tree.call f args m k).wpD P W G Q ds:=
 meetR (ι:=One) (ok:=fun i=>Sl i.1 n i.2∧∀g,(rowF (pt i.1 n) xs).g=some g→W.heap.size≤g) (v:=fun i=>v i.1 i.2) (fs:=fun i=>[rowF (pt i.1 n) xs]) hc (fun β ρ w vs hm hr=>by
  rw [valsOf_spec _ _ _ hv hr]
  refine (hC β ρ w hm).mono fun e w' ⟨i,hi,hg⟩=>⟨i,⟨hi,fun g hgg=>Nat.le_trans hm.grown.size (hg.2.2 _ List.mem_cons_self g hgg).1⟩,hg⟩) (fun i hi=>h i.1 i.2 hi.1 hi.2)
end
def bad (x:Tx):Bool:=!x.ok
end Go.Proofs.YtfhgkkcpkcjbmaaGreatDoor.greedy
namespace Go.Proofs.YtfhgkkcpkcjbmaaGreatDoor.greedy
open Go.RowKit Sx txn queue
structure Ln where
 s:Int
 a:Option Addr
 n:Nat
 c:Nat
 l:List Tx
section
variable {W : World} {G : Option Nat} {Q : Ending → World → Prop} {ds : List Deferred}
theorem readS {ty:TypeId} {ad:Option Addr} {xs vs:List Value} {k sz n:Nat} {m:M} {K:Value→Tree} {a:Addr} (hty:lk env.agg ty=some (some sz)) (hl:vs.length=sz) (hm:rowF (pt ad n) xs∈m.facts) (hk:k<n) (ha:ad.isSome=true)
  (hx:∀(j:Nat) (u:Value),vs[j]?=some u→xs[k*sz+j]?=some u) (haddr:a=(ad.getD ⟨0,0,none⟩).add (k*sz)) (h:(K (.agg vs.toArray)).wpD Tryz.prog W G Q ds):(Tree.load ty a m K).wpD Tryz.prog W G Q ds:=by
 rw [pt_pos hk] at hm
 refine ⟨.agg vs.toArray,fun β ρ w hM=>?_,h⟩
 cases ad with
 | none=>cases ha
 | some ad=>
  have:=env_ok.aggN ty sz hty a w vs hl (fun j u hu=>by
   have hc:=(hM.at_ hm).cell (hx j u hu)
   rw [haddr]
   simp only [Option.getD_some]
   obtain ⟨b,o,sp⟩:=ad
   unfold Addr.add at hc ⊢
   by_cases h1:k*sz=0 <;> by_cases h2:j=0 <;> simp_all [Nat.add_assoc])
  rw [this]
end
end Go.Proofs.YtfhgkkcpkcjbmaaGreatDoor.greedy
namespace Go.Proofs.YtfhgkkcpkcjbmaaGreatDoor.greedy
open Go.RowKit Sx txn queue
def tz:Tx:=⟨0,0,0,0,0,ByteArray.empty⟩
def nx (l:List Tx) (i:Nat):Tx:=l.getD i tz
theorem nx_get {l:List Tx} {i:Nat} (h:i<l.length):l[i]?=some (nx l i):=by
 unfold nx
 rw [List.getD_eq_getElem?_getD,List.getElem?_eq_getElem h]
 rfl
def plc (m:List (Int×Value)) (x:Ln):Option Nat:=match lkM m x.s with | some (.int .i64 p)=>some p.toNat | _=>none
end Go.Proofs.YtfhgkkcpkcjbmaaGreatDoor.greedy
namespace Go.Proofs.YtfhgkkcpkcjbmaaGreatDoor.greedy
open Go.RowKit Sx txn queue
theorem own_row {w:World} {base:Nat} {e:TypeId} {size:Nat} {v:Value} {n:Nat} {xs:List Value} (h:w.ownsRow base e size v n xs):∃a c,v=.slice a n c∧Sl a n c∧(∀ad,a=some ad→base≤ad.block)∧At w (pt a n) xs:=by
 obtain ⟨hl,⟨rfl,rfl⟩ | ⟨g,cap,cur,rfl,hb,hg,hn,hc,hsz,hx⟩⟩:=h
 ·exact ⟨none,0,rfl,⟨Nat.le_refl _,Nat.zero_le _,fun _=>⟨rfl,rfl⟩⟩,fun ad h=>(by cases h),fun g hg=>(by cases hg)⟩
 ·refine ⟨_,cap,rfl,⟨hn,hc,fun h=>(by cases h)⟩,fun ad h=>(by cases h;exact hb),?_⟩
  by_cases h0:n=0
  ·rw [show pt _ n=none from if_pos h0]
   intro g hg
   cases hg
  ·rw [show pt _ n=_ from if_neg h0]
   intro g' hg'
   cases hg'
   refine ⟨_,hg,fun ad had=>?_⟩
   cases had
   refine ⟨rfl,cur,e,_,rfl,fun j u hu=>?_⟩
   have hj:j<n*size:=by
    have:=(List.getElem?_eq_some_iff.1 hu).1
    omega
   rw [← hx,List.getElem?_take,if_pos hj,Array.getElem?_toList] at hu
   simpa using hu
structure Ac where
 s:Int
 b:Int
 a:Option Addr
 n:Nat
 c:Nat
 l:List Tx
def Ac.cs (x:Ac):List Value:=[.int .i64 x.s,.int .i64 x.b,.slice x.a x.n x.c]
def cellsA (L:List Ac):List Value:=L.flatMap Ac.cs
theorem cellsA_length (L:List Ac):(cellsA L).length=L.length*3:=by
 induction L with
 | nil=>rfl
 | cons x L ih=>unfold cellsA at *;rw [List.flatMap_cons,List.length_append,ih];simp [Ac.cs];omega
theorem cellsA_at {L:List Ac} {k:Nat} {x:Ac} (h:L[k]?=some x):∀(j:Nat) (u:Value),x.cs[j]?=some u→(cellsA L)[k*3+j]?=some u:=by
 induction L generalizing k with
 | nil=>simp at h
 | cons y L ih=>
  intro j u hu
  unfold cellsA
  rw [List.flatMap_cons]
  cases k with
  | zero=>
   simp at h;subst h
   have hj:j<y.cs.length:=(List.getElem?_eq_some_iff.1 hu).1
   rw [Nat.zero_mul,Nat.zero_add,List.getElem?_append_left hj];exact hu
  | succ k=>
   have:=ih (by simpa using h) j u hu
   rw [show (k+1)*3+j=y.cs.length+(k*3+j) from by show _=3+_;omega,List.getElem?_append_right (Nat.le_add_right _ _),Nat.add_sub_cancel_left]
   exact this
def acF (x:Ac):Fact:=rowF (pt x.a x.n) (cellsL x.l)
def Ac.fit (x:Ac):Prop:=Sl x.a x.n x.c∧x.n=x.l.length∧x.l.length≤1000000∧∀t∈x.l,t.d.size≤maxLen
def Acs (w:World) (a:Option Addr) (n c:Nat) (L:List Ac):Prop:=Sl a n c∧n=L.length∧At w (pt a n) (cellsA L)∧∀x∈L,x.fit∧At w (pt x.a x.n) (cellsL x.l)
def acsF (a:Option Addr) (n:Nat) (L:List Ac):List Fact:=rowF (pt a n) (cellsA L)::L.map acF
theorem Acs.facts {w:World} {a n c L} (h:Acs w a n c L):∀φ∈acsF a n L,∀g,φ.g=some g→∃o,w.heap[g]?=some o∧φ.holds o:=by
 intro φ hφ g hg
 rcases List.mem_cons.1 hφ with rfl | hφ
 ·exact h.2.2.1 g hg
 ·obtain ⟨x,hx,rfl⟩:=List.mem_map.1 hφ
  exact (h.2.2.2 x hx).2 g hg
theorem Mem.acs {W:World} {G:Option Nat} {m:M} {β ρ} {w w0:World} {a n c L} (h0:Acs w0 a n c L) (hM:Mem W G m β ρ w) (hm:∀φ∈acsF a n L,φ∈m.facts):Acs w a n c L:=
 ⟨h0.1,h0.2.1,hM.at_ (hm _ (.head _)),fun x hx=>⟨(h0.2.2.2 x hx).1,hM.at_ (hm _ (.tail _ (List.mem_map.2 ⟨x,hx,rfl⟩)))⟩⟩
end Go.Proofs.YtfhgkkcpkcjbmaaGreatDoor.greedy
namespace Go.Proofs.YtfhgkkcpkcjbmaaGreatDoor.greedy
open Go.RowKit Sx txn queue
def rest (m:List (Int×Value)) (x:Ln):List Tx:=match plc m x with | some p=>x.l.drop p | none=>[]
end Go.Proofs.YtfhgkkcpkcjbmaaGreatDoor.greedy
namespace Go.Proofs.YtfhgkkcpkcjbmaaGreatDoor.greedy
open Go.RowKit Sx txn queue
theorem cellsX_one (x:Tx):cellsL [x]=cellsX x:=by simp [cellsL]
end Go.Proofs.YtfhgkkcpkcjbmaaGreatDoor.greedy
namespace Go.Proofs.YtfhgkkcpkcjbmaaGreatDoor.greedy
open Go.RowKit Sx txn queue
section
variable {W : World} {G : Option Nat} {Q : Ending → World → Prop} {ds : List Deferred}
theorem readA {ty:TypeId} {ad:Option Addr} {L:List Ac} {k f:Nat} {x:Ac} {m:M} {K:Value→Tree} {a:Addr} (v:Value) (hty:lk env.agg ty=some none) {n:Nat} (hm:rowF (pt ad n) (cellsA L)∈m.facts) (hk:k<n) (ha:ad.isSome=true) (hx:L[k]?=some x) (hv:x.cs[f]?=some v)
  (haddr:a=((ad.getD ⟨0,0,none⟩).add (k*3)).add f) (h:(K v).wpD Tryz.prog W G Q ds):(Tree.load ty a m K).wpD Tryz.prog W G Q ds:=by
 rw [pt_pos hk] at hm
 refine ⟨v,fun β ρ w hM=>?_,h⟩
 cases ad with
 | none=>cases ha
 | some ad=>
  have hc:=(hM.at_ hm).cell (cellsA_at hx f v hv)
  have e:a=ad.add (k*3+f):=by
   rw [haddr]
   simp only [Option.getD_some]
   obtain ⟨b,o,sp⟩:=ad
   unfold Addr.add
   by_cases h1:k*3=0 <;> by_cases h2:f=0 <;> simp [h1,h2,Nat.add_assoc]
  rw [env_ok.agg1 ty hty]
  rw [e]
  simp [load,Sem.run,hc]
end
def fewA (L:List Ac):Bool:=L.all fun x=>fewB x.l&&decide ((x.n:Int)≤20)
theorem cellsA_append (L:List Ac) (x:Ac):cellsA (L++[x])=cellsA L++x.cs:=by simp [cellsA]
end Go.Proofs.YtfhgkkcpkcjbmaaGreatDoor.greedy
namespace Go.Proofs.YtfhgkkcpkcjbmaaGreatDoor.greedy
open Go.RowKit Sx txn queue
section
variable {W : World} {G : Option Nat} {Q : Ending → World → Prop} {ds : List Deferred}
theorem readP {ty:TypeId} {a:Option Addr} {n k j:Nat} {ad:Addr} {xs:List Value} {m:M} {K:Value→Tree} (v:Value) (hty:lk env.agg ty=some none) (hm:rowF (pt a n) xs∈m.facts) (hk:k<n) (ha:a.isSome=true) (hv:xs[j]?=some v) (haddr:ad=(a.getD ⟨0,0,none⟩).add j) (h:(K v).wpD Tryz.prog W G Q ds):(Tree.load ty ad m K).wpD Tryz.prog W G Q ds:=by
 obtain ⟨ad',rfl⟩:=Option.isSome_iff_exists.1 ha
 rw [pt_pos hk] at hm
 exact readC v hty hm hv haddr h
end
end Go.Proofs.YtfhgkkcpkcjbmaaGreatDoor.greedy
namespace Go.Proofs.YtfhgkkcpkcjbmaaGreatDoor.greedy
open Go.RowKit Sx txn queue
theorem Env.Ok.howD {E:Env} {P:Program} (hE:E.Ok P) (h:List (FuncId×How)):({ E with how:=h }:Env).Ok P:=⟨hE.zero,hE.agg1,hE.aggN,hE.off,hE.row,hE.str,hE.strs,hE.ints,hE.size,hE.mixed,hE.row1,hE.meth,hE.arr⟩
end Go.Proofs.YtfhgkkcpkcjbmaaGreatDoor.greedy
namespace Go.Proofs.YtfhgkkcpkcjbmaaGreatDoor.greedy
open Go.RowKit Sx txn queue
def sameT (a b:Tx):Bool:=decide (a.s=b.s)&&decide (a.n=b.n)&&decide (a.t=b.t)&&decide (a.c=b.c)&&decide (a.g=b.g)&&decide (a.d.toList=b.d.toList)
theorem sameT_iff (a b:Tx):sameT a b=true↔a=b:=by
 unfold sameT
 simp only [Bool.and_eq_true,decide_eq_true_eq]
 constructor
 ·rintro ⟨⟨⟨⟨⟨h1,h2⟩,h3⟩,h4⟩,h5⟩,h6⟩
  obtain ⟨s,n,t,c,g,d⟩:=a
  obtain ⟨s',n',t',c',g',d'⟩:=b
  have:d=d':=ByteArray.ext (Array.toList_inj.1 (by rw [← ByteArray.toList_eq,← ByteArray.toList_eq];exact h6))
  simp_all
 ·rintro rfl
  simp
theorem eq_any (x y:Operand) (a b:Tx) (w:World):(do eqGuard .eql 38 x y a.val b.val;pure (Next.value (← binOp .eql 38 a.val b.val)):Sem Next).run Tryz.prog w=.ok (.value (.bool (sameT a b))) w:=by
 obtain ⟨s,n,t,c,g,d⟩:=a
 obtain ⟨s',n',t',c',g',d'⟩:=b
 unfold sameT
 simp [Tx.val,eqGuard,go_sem]
 by_cases h1:s=s' <;> by_cases h2:n=n' <;> by_cases h3:t=t' <;> by_cases h4:c=c' <;> by_cases h5:g=g' <;> by_cases h6:d.toList=d'.toList <;> simp [h1,h2,h3,h4,h5,h6]
def eqL:List Tx→List Tx→Bool
 | [],[]=>true
 | x::l,y::r=>sameT x y&&eqL l r
 | _,_=>false
def pre (m r:List Tx):Bool:=decide (m.length≤r.length)&&eqL m (r.take m.length)
end Go.Proofs.YtfhgkkcpkcjbmaaGreatDoor.greedy
namespace Go.Proofs.YtfhgkkcpkcjbmaaGreatDoor.greedy
open Go.RowKit Go.ChangeShapes Go.WideShapes Sx txn queue
theorem typed_accs:Typed Tryz.prog 32 (.row (.flat [.int,.int,.row (.flat shTx)])):=.row Tryz.underlying32 (by kernel_rfl) typed_acc (by decide)
def Ac.okIn (w:World) (x:Ac):Prop:=Sl x.a x.n x.c∧x.n=x.l.length∧At w (pt x.a x.n) (cellsL x.l)∧(∀t∈x.l,Tx.fits t)∧Fits x.s∧Fits x.b
theorem LiesN.accs {w:World}:∀{vs:List Value} {ds:List D},LiesN w (.flat [.int,.int,.row (.flat shTx)]) vs ds→∃L:List Ac,vs=cellsA L∧ds.length=L.length∧∀x∈L,x.okIn w
 | _,_,.nil=>⟨[],rfl,rfl,by simp⟩
 | _,_,.cons h hl=>by
  obtain ⟨L,rfl,h2,h3⟩:=LiesN.accs hl
  cases h with
  | flat h=>
   cases h with
   | cons h1 h=>
   cases h with
   | cons h4 h=>
   cases h with
   | cons h5 h=>
   cases h
   cases h1 with
   | int f1=>
   cases h4 with
   | int f2=>
   cases h5 with
   | row hs hn hl' ha=>
    obtain ⟨l,rfl,h6,h7⟩:=LiesN.txs hl'
    refine ⟨⟨_,_,_,_,_,l⟩::L,rfl,by simp [h2],fun p hp=>?_⟩
    rcases List.mem_cons.1 hp with rfl | hp
    ·exact ⟨hs,by simp only [];omega,ha,h7,f1,f2⟩
    ·exact h3 p hp
def AccsIn (w:World) (a:Option Addr) (n c:Nat) (L:List Ac):Prop:=Sl a n c∧n=L.length∧At w (pt a n) (cellsA L)∧∀x∈L,x.okIn w
end Go.Proofs.YtfhgkkcpkcjbmaaGreatDoor.greedy
namespace Go.Proofs.YtfhgkkcpkcjbmaaGreatDoor.greedy
open Go.RowKit Sx txn queue
theorem eq_same' (x y:Operand) (t:Tx) (w:World):(do eqGuard .eql 38 x y t.val t.val;pure (Next.value (← binOp .eql 38 t.val t.val)):Sem Next).run Tryz.prog w=.ok (.value (.bool true)) w:=by
 have:=eq_any x y t t w
 rw [show sameT t t=true from (sameT_iff t t).2 rfl] at this
 exact this
end Go.Proofs.YtfhgkkcpkcjbmaaGreatDoor.greedy
namespace Go.Proofs.YtfhgkkcpkcjbmaaGreatDoor.greedy
open Go.RowKit Sx txn queue
theorem AccsIn.facts {w:World} {a n c L} (h:AccsIn w a n c L):∀φ∈acsF a n L,∀g,φ.g=some g→∃o,w.heap[g]?=some o∧φ.holds o:=by
 intro φ hφ g hg
 rcases List.mem_cons.1 hφ with rfl | hφ
 ·exact h.2.2.1 g hg
 ·obtain ⟨x,hx,rfl⟩:=List.mem_map.1 hφ
  exact (h.2.2.2 x hx).2.2.1 g hg
theorem AccsIn.mem {W:World} {G:Option Nat} {m:M} {β ρ} {w w0:World} {a n c L} (h0:AccsIn w0 a n c L) (hM:Mem W G m β ρ w) (hm:∀φ∈acsF a n L,φ∈m.facts):AccsIn w a n c L:=
 ⟨h0.1,h0.2.1,hM.at_ (hm _ (.head _)),fun x hx=>by
  obtain ⟨h1,h2,h3,h4⟩:=h0.2.2.2 x hx
  exact ⟨h1,h2,hM.at_ (hm _ (.tail _ (List.mem_map.2 ⟨x,hx,rfl⟩))),h4⟩⟩
theorem AccsIn.few {w:World} {a n c L} (h:AccsIn w a n c L) (hf:fewA L=true):Acs w a n c L∧∀x∈L,x.l.length≤20:=by
 have hx:∀x∈L,x.l.length≤20:=fun x hx=>by
  have h1:=List.all_eq_true.1 hf x hx
  simp only [Bool.and_eq_true,decide_eq_true_eq] at h1
  have:=(h.2.2.2 x hx).2.1
  omega
 exact ⟨⟨h.1,h.2.1,h.2.2.1,fun x hxm=>by
  obtain ⟨h1,h2,h3,h4,_⟩:=h.2.2.2 x hxm
  exact ⟨⟨h1,h2,by have:=hx x hxm;omega,fun t ht=>(h4 t ht).2.2.2.2.2⟩,h3⟩⟩,hx⟩
theorem fewW (L:List Ac) (m:Int) (a:Option Addr) (n c:Nat) (w:World) (hA:AccsIn w a n c L) :
  Calls Tryz.prog 47 (List.toArray [.slice a n c,.int .i64 m]) w fun e w'=>e=.returned (.bool (fewA L&&decide ((n:Int)≤m)))∧Below w.heap.size w w':=by
 have hs:=hA.1
 have hn:=hA.2.1
 have hn63:=hs.le
 refine calls_of_exec env_ok.keeps Tryz.func47 rfl [] (schedQ_ok _ _ (by kernel_rfl)) (acsF a n L) hA.facts ?_
 conv=>arg 5;whnf
 refine loop_rule env_ok.keeps [] (schedQ_ok _ _ (by kernel_rfl)) (fun k:Nat=>k≤n∧fewA L=fewA (L.drop k)) (fun k=>(⟨[],[],acsF a n L⟩,[.v (.slice a n c),.v (.int .i64 m),.any,.any,.v (.bool false),.v (.int .i64 k),.any,.any,.any,.any,.any,.any,.any,.any,.any,.any,.any,.any,.any,.any,.any,.any,.any])) (fun k=>n - k) 0 ⟨Nat.zero_le _,rfl⟩ ⟨by repeat' first | exact trivial | refine ⟨.inl rfl,?_⟩ | refine ⟨.inr rfl,?_⟩,⟨by repeat' first | exact trivial | refine ⟨.inl rfl,?_⟩ | refine ⟨.inr rfl,?_⟩,by repeat' first | exact trivial | refine ⟨.inl rfl,?_⟩ | refine ⟨.inr rfl,?_⟩,fun _ h=>h⟩,rfl⟩ ?_
 rintro k ⟨hk,hf⟩
 conv=>arg 5;whnf
 refine wp_br (fun h1=>?_) (fun h1=>?_)
 ·have hlt:k<n:=by have h3:=of_decide_eq_true (show decide ((k:Int)<(n:Int))=true from h1);omega
  obtain ⟨x,hx⟩:∃x,L[k]?=some x:=⟨_,List.getElem?_eq_getElem (by omega)⟩
  have hxm:x∈L:=List.mem_of_getElem? hx
  obtain ⟨xs,xn,_⟩:=hA.2.2.2 x hxm
  have hd:fewA (L.drop k)=((fewB x.l&&decide ((x.n:Int)≤20))&&fewA (L.drop (k+1))):=by
   obtain ⟨h5,h6⟩:=List.getElem?_eq_some_iff.1 hx
   rw [List.drop_eq_getElem_cons h5,h6]
   rfl
  have FW:=fun w hr=>rfew x.l x.a x.n x.c 20 w xs xn hr
  rw [hd] at hf
  conv=>arg 5;whnf
  refine wp_must ⟨by omega,by show (k:Int)<(n:Int);omega,hs.some hlt⟩ ?_
  conv=>arg 5;whnf
  refine readA (.slice x.a x.n x.c) (L:=L) (k:=k) (f:=2) rfl (.head _) hlt (hs.some hlt) hx rfl rfl ?_
  generalize (fewB x.l&&decide ((x.n:Int)≤20))=fb at *
  conv=>arg 5;whnf
  refine meetc (v:=.bool fb) rfl (by kernel_rfl) (fun β ρ w' hM'=>FW w' (hM'.at_ (.tail _ (List.mem_map.2 ⟨x,hxm,rfl⟩)))) ?_
  cases fb with
  | false=>
   conv=>arg 5;whnf
   exact wp_back fun β ρ w' hM'=>⟨by rw [hf];rfl,hM'.below⟩
  | true=>
   conv=>arg 5;whnf
   refine wp_must ⟨by show -9223372036854775808≤(k:Int)+1;omega,by show (k:Int)+1≤9223372036854775807;omega⟩ ?_
   conv=>arg 5;whnf
   refine wp_end ⟨k+1,⟨hlt,hf⟩,⟨by repeat' first | exact trivial | refine ⟨.inl rfl,?_⟩ | refine ⟨.inr rfl,?_⟩,⟨by repeat' first | exact trivial | refine ⟨.inl rfl,?_⟩ | refine ⟨.inr rfl,?_⟩,by repeat' first | exact trivial | refine ⟨.inl rfl,?_⟩ | refine ⟨.inr rfl,?_⟩,fun _ h=>h⟩,rfl⟩,by show n - (k+1)<n - k;omega⟩
 ·have hkn:k=n:=by have h3:=of_decide_eq_false (show decide ((k:Int)<(n:Int))=false from h1);omega
  rw [List.drop_eq_nil_of_le (by omega)] at hf
  conv=>arg 5;whnf
  exact wp_back fun β ρ w' hM'=>⟨by rw [hf];rfl,hM'.below⟩
end Go.Proofs.YtfhgkkcpkcjbmaaGreatDoor.greedy
