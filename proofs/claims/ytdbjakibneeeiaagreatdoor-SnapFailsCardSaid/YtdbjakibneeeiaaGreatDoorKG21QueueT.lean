/- Layer 5 (queue): the library's functions over rows of transactions that it calls: Clone, Grow. -/
import Derived.Test.YtdbjakibneeeiaaGreatDoorKG19QueueB
import Derived.Test.YtdbjakibneeeiaaGreatDoorKG20SxA
import Derived.Lib.SliceRun
set_option linter.all false
set_option maxHeartbeats 4000000
set_option maxRecDepth 100000
namespace Go.Proofs.YtdbjakibneeeiaaGreatDoor.queue
open Go.RowKit Sx txn
def clone (l:List Tx) (a:Option Addr) (n c:Nat) (w:World) (hs:Sl a n c) (hn:n=l.length) (hrow:At w (pt a n) (ah l)) (hl:l.length≤1000000) :
  Calls Tryz.prog 84 #[.slice a n c] w fun e w'=>∃v,e=.returned v∧Below w.heap.size w w'∧w'.ownsRow w.heap.size 26 6 v n (ah l):=by
 refine bH aq Tryz.func84 rfl [] (by kernel_rfl) (n:=2) rfl [.v (.slice a n c)] ⟨[],[],[ay (pt a n) (ah l)]⟩ [] (cv _ (ru hrow)) (ak.vals [.slice a n c]) ?_
 refine b8 (.bool a.isNone) (fun w=>by simp [eqGuard,Lib.run_eql_slice_nil w _ _ a n c 0 0 Tryz.underlying27]) ?_
 refine bk (fun h1=>?_) (fun h1=>?_)
 ·cases a with
  | some _=>cases h1
  | none=>
   have h0:=(hs.2.2 rfl).1
   exact av fun β ρ w' hM'=>⟨_,rfl,hM'.below,by
    have hl0:l=[]:=List.eq_nil_of_length_eq_zero (by omega)
    subst hl0
    exact ⟨by simp [ah,h0],.inl ⟨rfl,h0⟩⟩⟩
 ·refine ⟨ah l,by rw [a0W,hn],sJ l,fun β ρ w' hM' ad had j u hu=>?_,?_⟩
  ·subst had
   have h1:=hM'.at_ List.mem_cons_self
   rw [dR (k:=0) (by have:=sA hu;omega)] at h1
   exact h1.cell hu
  ·refine ai ⟨by show 0+n≤maxLen;unfold maxLen;omega,by show (0+n)*56≤140737488355328;omega,fun ha=>hs.2.2 ha⟩ ?_
   refine aO (fun β ρ w' v hM' hv=>⟨v,rfl,hM'.below,?_⟩)
   have:=hM'.mine (i:=0) (r:=⟨26,6,0+n,[]++ah l⟩) rfl hv
   simpa using this
def grow (k:Nat) (w:World) (hk:k≤1000000) :
  Calls Tryz.prog 207 #[.slice none 0 0,.int .i64 k] w fun e w'=>∃v,e=.returned v∧Below w.heap.size w w'∧w'.ownsRow w.heap.size 26 6 v 0 []:=by
 refine bH aq Tryz.func207 rfl [] (by kernel_rfl) (n:=4) rfl [.v (.slice none 0 0),.v (.int .i64 k)] ⟨[],[],[]⟩ [] (cv _ (by simp)) (ak.vals [.slice none 0 0,.int .i64 k]) ?_
 refine ai ⟨by omega,by omega⟩ ?_
 refine ai ⟨by omega,by omega⟩ ?_
 refine bk (fun h2=>?_) (fun h2=>?_)
 ·refine b8 (.slice none 0 0) (fun w=>by simp [Instr.sliceAt,Instr.slice,run_underlying Tryz.underlying27,Sem.run_bind,go_sem]) ?_
  have h2:(0:Int)<(k:Int) - (0 - 0):=by simpa using h2
  refine ai ⟨h2,by omega,by omega⟩ ?_
  intro xs hx
  refine ai ⟨by omega,by omega⟩ ?_
  refine aO (fun β ρ w' v hM' hv=>⟨v,rfl,hM'.below,?_⟩)
  have:=hM'.mine (i:=0) (r:=⟨26,6,0,xs.take 0⟩) rfl hv
  simpa using this
 ·exact av fun β ρ w' hM'=>⟨_,rfl,hM'.below,rfl,.inl ⟨rfl,rfl⟩⟩
def idx (p:Tx→Bool):List Tx→Nat→Int
 | [],_=>-1
 | x::l,k=>if p x then k else idx p l (k+1)
def yD (p:Tx→Bool) (l:List Tx) (k:Nat) (x:Tx) (h:l[k]?=some x):idx p (l.drop k) k=if p x then (k:Int) else idx p (l.drop (k+1)) (k+1):=by
 obtain ⟨h1,h2⟩:=List.getElem?_eq_some_iff.1 h
 rw [List.drop_eq_getElem_cons h1,h2]
 rfl
def vC (l:List Tx) (a:Option Addr) (n c:Nat) (g:FuncId) (cs:List Value) (p:Tx→Bool) (w:World) (hs:Sl a n c) (hn:n=l.length) (hrow:At w (pt a n) (ah l)) (hg:aP Tryz.prog g=true)
  (hp:∀(x:Tx) (w':World),x∈l→Below w.heap.size w w'→Calls Tryz.prog g (List.toArray ([x.val]++cs)) w' fun e w''=>e=.returned (.bool (p x))∧Below w'.heap.size w' w'') :
  Calls Tryz.prog 223 (List.toArray [.slice a n c,.func (.func g) #[] cs.toArray]) w fun e w'=>e=.returned (.int .i64 (idx p l 0))∧Below w.heap.size w w':=by
 refine au aq Tryz.func223 rfl [] (by kernel_rfl) [ay (pt a n) (ah l)] (ru hrow) ?_
 have hn63:=hs.le
 refine cL aq [] (by kernel_rfl) (fun k:Nat=>k≤n∧idx p l 0=idx p (l.drop k) k) (fun k=>(⟨[],[],[ay (pt a n) (ah l)]⟩,[.v (.slice a n c),.v (.func (.func g) #[] cs.toArray),.any,.any,.v (.int .i64 0),.any,.any,.v (.int .i64 n),.v (.int .i64 k),.any,.any,.any,.any,.any,.any,.any,.any,.any,.any])) (fun k=>n - k) 0 ⟨Nat.zero_le _,rfl⟩ ⟨by repeat' first | exact trivial | refine ⟨.inl rfl,?_⟩ | refine ⟨.inr rfl,?_⟩,⟨by repeat' first | exact trivial | refine ⟨.inl rfl,?_⟩ | refine ⟨.inr rfl,?_⟩,by repeat' first | exact trivial | refine ⟨.inl rfl,?_⟩ | refine ⟨.inr rfl,?_⟩,fun _ h=>h⟩,rfl⟩ ?_
 rintro k ⟨hk,hsr⟩
 refine bk (fun h1=>?_) (fun h1=>?_)
 ·have hlt:k<n:=by simp at h1;omega
  refine ai ⟨by omega,by omega,hs.some hlt⟩ ?_
  have hx:l[k]?=some l[k]:=List.getElem?_eq_getElem (by omega)
  have hm:=List.mem_of_getElem? hx
  generalize l[k]=x at hx hm
  refine mV (l:=l) (k:=k) rfl (List.mem_cons_self) hlt (hs.some hlt) hx rfl ?_
  refine meet (.bool (p x)) hg (fun β ρ w' vs hM' hR=>?_) ?_
  ·obtain rfl:=ak.iX (l:=[x.val]++cs) hR
   exact hp x w' hm hM'.below
  rw [yD p l k x hx] at hsr
  refine bk (fun h2=>?_) (fun h2=>?_)
  ·refine av fun β ρ w' hM'=>⟨?_,hM'.below⟩
   rw [hsr,h2]
   rfl
  ·refine ai ⟨by omega,by omega⟩ ?_
   refine aO ⟨k+1,⟨hlt,by rw [hsr,h2];rfl⟩,⟨by repeat' first | exact trivial | refine ⟨.inl rfl,?_⟩ | refine ⟨.inr rfl,?_⟩,⟨by repeat' first | exact trivial | refine ⟨.inl rfl,?_⟩ | refine ⟨.inr rfl,?_⟩,by repeat' first | exact trivial | refine ⟨.inl rfl,?_⟩ | refine ⟨.inr rfl,?_⟩,fun _ h=>h⟩,rfl⟩,by show n - (k+1)<n - k;omega⟩
 ·refine av fun β ρ w' hM'=>⟨?_,hM'.below⟩
  rw [hsr,List.drop_eq_nil_of_le (by simp at h1;omega)]
  rfl
structure Pt where
 a:Option Addr
 n:Nat
 c:Nat
 l:List Tx
def Pt.v (q:Pt):Value:=.slice q.a q.n q.c
def flat (ps:List Pt):List Tx:=ps.flatMap Pt.l
def qb (ps:List Pt) (k:Nat) (q:Pt) (h:ps[k]?=some q):flat (ps.take (k+1))=flat (ps.take k)++q.l:=by
 rw [List.take_add_one,h]
 simp [flat]
def concat (ps:List Pt) (A:Option Addr) (N C:Nat) (w:World) (hS:Sl A N C) (hN:N=ps.length) (hrow:At w A (ps.map Pt.v)) (hps:∀q∈ps,Sl q.a q.n q.c∧q.n=q.l.length∧At w (pt q.a q.n) (ah q.l)) (hl:(flat ps).length≤1000000) :
  Calls Tryz.prog 171 #[.slice A N C] w fun e w'=>∃v,e=.returned v∧Below w.heap.size w w'∧w'.ownsRow w.heap.size 26 6 v (flat ps).length (ah (flat ps)):=by
 have hF:∀φ∈(ay A (ps.map Pt.v)::ps.map (fun q=>ay (pt q.a q.n) (ah q.l))),∀g,φ.g=some g→∃o,w.heap[g]?=some o∧φ.holds o:=by
  intro φ hφ
  rcases List.mem_cons.1 hφ with rfl | h
  ·exact hrow
  ·obtain ⟨q,hq,rfl⟩:=List.mem_map.1 h
   exact (hps q hq).2.2
 have hN63:=hS.le
 have hle:∀k,(flat (ps.take k)).length≤1000000:=by
  intro k
  have e:flat ps=flat (ps.take k)++flat (ps.drop k):=by unfold flat;rw [← List.flatMap_append,List.take_append_drop]
  rw [e,List.length_append] at hl
  omega
 refine bH aq Tryz.func171 rfl [] (by kernel_rfl) (n:=2) rfl [.v (.slice A N C)] ⟨[],[],(ay A (ps.map Pt.v)::ps.map (fun q=>ay (pt q.a q.n) (ah q.l)))⟩ [] (cv _ hF) (ak.vals [.slice A N C]) ?_
 refine cL aq [] (by kernel_rfl) (fun k:Nat=>k≤N) (fun k=>(⟨[],[],(ay A (ps.map Pt.v)::ps.map (fun q=>ay (pt q.a q.n) (ah q.l)))⟩,[.v (.slice A N C),.any,.v (.slice none 0 0),.v (.int .i64 ((flat (ps.take k)).length:Nat)),.any,.any,.any,.any,.any,.v (.slice A N C),.v (.int .i64 N),.v (.int .i64 k),.any,.any,.any,.any,.any,.any,.any,.any,.any,.any,.any,.any,.any,.any,.any,.any,.any,.any,.any,.any,.any,.any,.any,.any])) (fun k=>N - k) 0 (Nat.zero_le _) ⟨by repeat' first | exact trivial | refine ⟨.inl rfl,?_⟩ | refine ⟨.inr rfl,?_⟩,⟨by repeat' first | exact trivial | refine ⟨.inl rfl,?_⟩ | refine ⟨.inr rfl,?_⟩,by repeat' first | exact trivial | refine ⟨.inl rfl,?_⟩ | refine ⟨.inr rfl,?_⟩,fun _ h=>h⟩,rfl⟩ ?_
 intro k hk
 refine bk (fun h1=>?_) (fun h1=>?_)
 ·have hlt:k<N:=by simp at h1;omega
  have hx:ps[k]?=some ps[k]:=List.getElem?_eq_getElem (by omega)
  have hq:=hps ps[k] (List.mem_of_getElem? hx)
  generalize ps[k]=q at hx hq
  obtain ⟨ad,rfl⟩:=Option.isSome_iff_exists.1 (hS.some hlt)
  refine ai ⟨by omega,by omega,rfl⟩ ?_
  refine oq (xs:=ps.map Pt.v) (j:=k) q.v rfl List.mem_cons_self (by rw [List.getElem?_map,hx];rfl) (by show ad.add (k*1)=ad.add k;rw [Nat.mul_one]) ?_
  have hl1:=congrArg List.length (qb ps k q hx)
  rw [List.length_append,← hq.2.1] at hl1
  have hb1:=hle (k+1)
  refine ai ⟨by omega,by omega⟩ ?_
  refine ai ⟨by omega,by omega⟩ ?_
  refine aO ⟨k+1,hlt,⟨by rw [hl1];repeat' first | exact trivial | refine ⟨.inl rfl,?_⟩ | refine ⟨.inr rfl,?_⟩,⟨by repeat' first | exact trivial | refine ⟨.inl rfl,?_⟩ | refine ⟨.inr rfl,?_⟩,by repeat' first | exact trivial | refine ⟨.inl rfl,?_⟩ | refine ⟨.inr rfl,?_⟩,fun _ h=>h⟩,rfl⟩,by show N - (k+1)<N - k;omega⟩
 ·have hkN:k=N:=by simp at h1;omega
  have e1:ps.take k=ps:=List.take_of_length_le (by omega)
  refine ⟨by kernel_rfl,fun β ρ w' vs hM' hR=>?_⟩
  obtain rfl:=ak.iX (l:=[.slice none 0 0,.int .i64 ((flat (ps.take k)).length:Nat)]) hR
  refine (grow _ w' (hle k)).mono ?_
  rintro e w'' ⟨v,rfl,hb,ho⟩
  refine ⟨v,0,[],rfl,hb,ho,?_⟩
  refine cL aq [] (by kernel_rfl) (fun k:Nat=>k≤N) (fun k=>(⟨[],[some ⟨26,6,(flat (ps.take k)).length,ah (flat (ps.take k))⟩],(ay A (ps.map Pt.v)::ps.map (fun q=>ay (pt q.a q.n) (ah q.l)))⟩,[.v (.slice A N C),.any,.v (.slice none 0 0),.any,.any,.any,.r 0,.any,.any,.any,.any,.any,.any,.any,.any,.any,.any,.any,.any,.any,.any,.any,.any,.any,.any,.v (.slice A N C),.v (.int .i64 N),.v (.int .i64 k),.any,.any,.any,.any,.any,.any,.any,.any])) (fun k=>N - k) 0 (Nat.zero_le _) ⟨by repeat' first | exact trivial | refine ⟨.inl rfl,?_⟩ | refine ⟨.inr rfl,?_⟩,⟨by repeat' first | exact trivial | refine ⟨.inl rfl,?_⟩ | refine ⟨.inr rfl,?_⟩,by repeat' first | exact trivial | refine ⟨.inl rfl,?_⟩ | refine ⟨.inr rfl,?_⟩,fun _ h=>h⟩,rfl⟩ ?_
  intro k hk
  refine bk (fun h1=>?_) (fun h1=>?_)
  ·have hlt:k<N:=by simp at h1;omega
   have hx:ps[k]?=some ps[k]:=List.getElem?_eq_getElem (by omega)
   have hm:=List.mem_of_getElem? hx
   have hq:=hps ps[k] hm
   generalize ps[k]=q at hx hq hm
   obtain ⟨ad,rfl⟩:=Option.isSome_iff_exists.1 (hS.some hlt)
   refine ai ⟨by omega,by omega,rfl⟩ ?_
   refine oq (xs:=ps.map Pt.v) (j:=k) q.v rfl List.mem_cons_self (by rw [List.getElem?_map,hx];rfl) (by show ad.add (k*1)=ad.add k;rw [Nat.mul_one]) ?_
   have hc1:ah (flat (ps.take (k+1)))=ah (flat (ps.take k))++ah q.l:=by rw [qb ps k q hx,fX]
   have hl1:=congrArg List.length (qb ps k q hx)
   rw [List.length_append,← hq.2.1] at hl1
   have hb1:=hle (k+1)
   refine ⟨ah q.l,by rw [a0W,hq.2.1],sJ q.l,fun β ρ w' hM' ad' had j u hu=>?_,?_⟩
   ·have hmem:ay (pt q.a q.n) (ah q.l)∈(ay (some ad) (ps.map Pt.v)::ps.map (fun q=>ay (pt q.a q.n) (ah q.l))):=List.mem_cons_of_mem _ (List.mem_map.2 ⟨q,hm,rfl⟩)
    rw [had,dR (k:=0) (by have:=sA hu;have:=hq.2.1;omega)] at hmem
    exact (hM'.at_ hmem).cell hu
   ·refine ai ⟨by show (flat (ps.take k)).length+q.n≤maxLen;unfold maxLen;omega,by show ((flat (ps.take k)).length+q.n)*56≤140737488355328;omega,fun ha=>hq.1.2.2 ha⟩ ?_
    refine ai ⟨by omega,by omega⟩ ?_
    refine aO ⟨k+1,hlt,⟨by repeat' first | exact trivial | refine ⟨.inl rfl,?_⟩ | refine ⟨.inr rfl,?_⟩,⟨by repeat' first | exact trivial | refine ⟨.inl rfl,?_⟩ | refine ⟨.inr rfl,?_⟩,by rw [hc1,hl1];repeat' first | exact trivial | refine ⟨.inl rfl,?_⟩ | refine ⟨.inr rfl,?_⟩,fun _ h=>h⟩,rfl⟩,by show N - (k+1)<N - k;omega⟩
  ·have hkN:k=N:=by simp at h1;omega
   have e1:ps.take k=ps:=List.take_of_length_le (by omega)
   refine aO (fun β ρ w' v hM' hv=>⟨v,rfl,hM'.below,?_⟩)
   have:=hM'.mine (i:=0) (r:=⟨26,6,(flat (ps.take k)).length,ah (flat (ps.take k))⟩) rfl hv
   rw [e1] at this
   exact this
end Go.Proofs.YtdbjakibneeeiaaGreatDoor.queue
namespace Go.Proofs.YtdbjakibneeeiaaGreatDoor.queue
open Go.RowKit Sx txn
def GK {w:World} {a:Option Addr} {xs:List Value} (h:At w a xs) (k:Nat):At w a (xs.take k):=by
 intro g hg
 obtain ⟨o,ho,hp⟩:=h g hg
 refine ⟨o,ho,fun ad had=>?_⟩
 obtain ⟨h1,cur,e,fr,h2,h3⟩:=hp ad had
 refine ⟨h1,cur,e,fr,h2,fun j u hu=>h3 j u ?_⟩
 rw [List.getElem?_take] at hu
 split at hu
 ·exact hu
 ·cases hu
def C8 {w:World} {a:Option Addr} {xs:List Value} (h:At w a xs) (k:Nat):At w (a.map fun x=>x.add k) (xs.drop k):=by
 cases a with
 | none=>intro g hg;cases hg
 | some ad=>
  obtain ⟨b,off,sp⟩:=ad
  obtain ⟨o,ho,hp⟩:=h b rfl
  obtain ⟨h1,cur,e,fr,h2,h3⟩:=hp _ rfl
  simp only [] at h1
  subst h1
  show At w (some ((⟨b,off,none⟩:Addr).add k)) _
  rw [Sx.eW]
  intro g hg
  cases hg
  refine ⟨o,ho,fun ad2 had=>?_⟩
  cases had
  refine ⟨rfl,cur,e,fr,h2,fun j u hu=>?_⟩
  rw [List.getElem?_drop] at hu
  have:=h3 _ _ hu
  simpa [Nat.add_assoc] using this
def lU {W:World} {m:M} {β ρ} {w':World} {a:Option Addr} {xs:List Value} (n:Nat) (hM:Mem W none m β ρ w') (hm:ay a xs∈m.facts) (hf:sE W none a) :
  ∀g,(ay (pt a n) xs).g=some g→W.heap.size≤g∧∃o,w'.heap[g]?=some o∧(ay (pt a n) xs).holds o:=by
 by_cases h:n=0
 ·rw [show pt a n=none from if_pos h]
  intro g hg
  cases hg
 ·rw [show pt a n=a from if_neg h]
  intro g hg
  refine ⟨?_,hM.at_ hm g hg⟩
  cases a with
  | none=>cases hg
  | some ad=>
   cases hg
   rcases hf ad rfl with h1 | h1
   ·exact h1
   ·cases h1
def below (y:Int) (l:List Tx):List Tx:=l.filter fun x=>decide (x.n<y)
def DA (p:Tx→Bool) (l:List Tx) (k:Nat) (x:Tx) (h:l[k]?=some x):(l.take (k+1)).filter p=(l.take k).filter p++(if p x then [x] else []):=by
 rw [List.take_add_one,h]
 by_cases q:p x <;> simp [q]
def acc (s b:Int) (a:Option Addr) (n c:Nat):Value:=.agg #[.int .i64 s,.int .i64 b,.slice a n c]
end Go.Proofs.YtdbjakibneeeiaaGreatDoor.queue
namespace Go.Proofs.YtdbjakibneeeiaaGreatDoor.queue
open Go.RowKit Sx txn
def E0 {P:Program} {W:World} {G:Option Nat} {Q:Ending→World→Prop} {f:FuncId} {args:List T} {e:TypeId} {size:Nat} {m:M} {k:Nat→List Value→Tree} {l:List Value} (n:Nat) (ys:List Value) (hv:aH args=some l) (hc:aP P f=true)
  (hC:∀β ρ w,Mem W G m β ρ w→Calls P f (List.toArray l) w fun e' w'=>∃v,e'=.returned v∧Below w.heap.size w w'∧w'.ownsRow w.heap.size e size v n ys) (h:(k n ys).wp P W G Q):(Tree.make f args e size m k).wp P W G Q:=
 ⟨hc,fun β ρ w vs hm hr=>by
  rw [aE _ _ _ hv hr]
  exact (hC β ρ w hm).mono fun e' w' ⟨v,h1,h2,h3⟩=>⟨v,n,ys,h1,h2,h3,h⟩⟩
def iA {P:Program} {W:World} {G:Option Nat} {Q:Ending→World→Prop} {f:FuncId} {args:List T} {l:List Value} {m:M} {k:Value→List Fact→Tree} {v:Value} (hv:aH args=some l) (hc:aP P f=true)
  (hC:∀β ρ w,Mem W G m β ρ w→Calls P f (List.toArray l) w fun e w'=>e=.returned v∧Below w.heap.size w w') (h:(k v []).wp P W G Q):(Tree.call f args m k).wp P W G Q:=
 meet v hc (fun β ρ w vs hm hr=>by rw [aE _ _ _ hv hr];exact hC β ρ w hm) h
abbrev One:=Option Addr×Nat
def xG (b:Int) (k:Nat) (v:Int):Bool:=bif decide (v<b) then true else (IntKind.i64.wrap (v - b) != (k:Int))
def bu (b:Int) (l:List Tx):List Tx:=l.take (bZ (xG b) l 0)
def Lm (k:Nat) (v s b:Int) (x:Value) (q:Addr) (w:World) (hq:At w (some q) [.int .i64 s,.int .i64 b,x]):Calls Tryz.prog 231 (List.toArray [.int .i64 k,.int .i64 v,.pointer (some q)]) w fun e w'=>e=.returned (.bool (xG b k v))∧Below w.heap.size w w':=by
 refine au aq.turn Tryz.func231 rfl [] (by kernel_rfl) [ay (some q) [.int .i64 s,.int .i64 b,x]] (ru hq) ?_
 conv=>arg 5;whnf
 refine oq (.int .i64 b) rfl (List.mem_cons_self) (j:=1) rfl rfl ?_
 conv=>arg 5;whnf
 refine bk (fun h=>?_) (fun h=>?_)
 ·(conv=>arg 5;whnf)
  refine oq (.int .i64 b) rfl (List.mem_cons_self) (j:=1) rfl rfl ?_
  conv=>arg 5;whnf
  refine av fun β ρ w' hM=>⟨?_,hM.below⟩
  have:decide (v<b)=false:=by simpa using h
  unfold xG
  rw [this]
  rfl
 ·(conv=>arg 5;whnf)
  refine av fun β ρ w' hM=>⟨?_,hM.below⟩
  have:decide (v<b)=true:=by simpa using h
  unfold xG
  rw [this]
  rfl
def lp (a:Option Addr) (n c j:Nat) (w:World) (h:j≤c):(do pure (Next.value (← Instr.sliceAt 27 (.slice a n c) none (some (.int .i64 j)) none)):Sem Next).run Tryz.prog w=.ok (.value (.slice a j c)) w:=by
 have h2:(j:Int)≤c:=by omega
 simp [Instr.sliceAt,Instr.slice,run_underlying Tryz.underlying27,Sem.run_bind,go_sem,h2]
def kg (l:List Tx) (j:Nat):ah (l.take j)=(ah l).take (j*6):=by
 induction l generalizing j with
 | nil=>simp [ah]
 | cons x l ih=>
  cases j with
  | zero=>simp [ah]
  | succ j=>
   have:=ih j
   simp only [ah] at this
   simp only [ah,List.take_succ_cons,List.flatMap_cons]
   rw [this,show (j+1)*6=(bQ x).length+j*6 from by simp [bQ];omega,List.take_length_add_append]
def lN {w:World} {a:Option Addr} {n:Nat} {l:List Tx} (h:At w (pt a n) (ah l)) (j:Nat) (hj:j≤n):At w (pt a j) (ah (l.take j)):=by
 by_cases h0:j=0
 ·rw [show pt a j=none from if_pos h0]
  intro g hg
  cases hg
 ·rw [show pt a n=a from if_neg (by omega)] at h
  rw [show pt a j=a from if_neg h0,kg]
  exact GK h _
def ready (s b:Int) (l:List Tx) (a:Option Addr) (n c:Nat) (w:World) (hs:Sl a n c) (hn:n=l.length) (hrow:At w (pt a n) (ah l)) (hl:l.length≤1000000) :
  Calls Tryz.prog 224 (List.toArray [acc s b a n c]) w fun e w'=>∃i:One,Sl i.1 (bu b l).length i.2∧dy w w' e (.slice i.1 (bu b l).length i.2) [ay (pt i.1 (bu b l).length) (ah (bu b l))]:=by
 have hle:=om (xG b) l 0
 have hlen:(bu b l).length=bZ (xG b) l 0:=by unfold bu;rw [List.length_take];omega
 have hrd:bu b l=l.take (bZ (xG b) l 0):=rfl
 rw [hlen]
 have hnc:=hs.1
 have hn63:=hs.le
 have hsr:=fun (g:FuncId) cs w' h1 h2=>search l a n c g cs (xG b) w' hs hn h1 h2
 generalize bZ (xG b) l 0=j at *
 have hjn:j≤n:=by omega
 refine au aq Tryz.func224 rfl [] (by kernel_rfl) [ay (pt a n) (ah l)] (ru hrow) ?_
 conv=>arg 5;whnf
 refine meet (.int .i64 j) (by kernel_rfl) (fun β ρ w' vs hM hR=>?_) ?_
 ·obtain ⟨y1,y2,rfl,h1,h2⟩:=ak.two hR
  obtain rfl:=h1
  obtain ⟨g,hg,rfl⟩:=Rel.Qj h2
  refine hsr _ [.pointer (some ⟨g,0,none⟩)] w' (hM.at_ (List.mem_cons_self)) (by kernel_rfl) fun k v w2 hb hk=>?_
  exact Lm k v s b _ _ w2 ((hM.box (b:=0) (l:=[.int .i64 s,.int .i64 b,.slice a n c]) rfl hg).later hb)
 conv=>arg 5;whnf
 refine b8 (.slice a j c) (fun w=>lp a n c j w (by omega)) ?_
 conv=>arg 5;whnf
 refine bV fun A C hS hF=>?_
 refine E0 j (ah (bu b l)) rfl (by kernel_rfl) (fun β ρ w' hM'=>?_) ?_
 ·have h1:=concat [⟨a,j,c,l.take j⟩] A 1 C w' hS rfl (hM'.at_ (List.mem_cons_self)) (by
   intro q hq
   simp only [List.mem_singleton] at hq
   subst hq
   exact ⟨⟨by show j≤c;omega,hs.2.1,fun ha=>⟨by have:=(hs.2.2 ha).1;show j=0;omega,(hs.2.2 ha).2⟩⟩,by show j=(l.take j).length;rw [List.length_take];omega,lN (hM'.at_ (List.mem_cons_of_mem _ List.mem_cons_self)) j hjn⟩) (by simp [flat];omega)
  rw [show flat [(⟨a,j,c,l.take j⟩:Pt)]=bu b l from by rw [hrd];simp [flat],hlen] at h1
  exact h1
 conv=>arg 5;whnf
 refine bV fun a1 c1 hs1 hf1=>?_
 conv=>arg 5;whnf
 refine av fun β ρ w' hM'=>⟨(a1,c1),hs1,rfl,hM'.below,?_⟩
 intro φ hφ
 simp only [List.mem_cons,List.not_mem_nil,or_false] at hφ
 subst hφ
 exact lU _ hM' List.mem_cons_self hf1
end Go.Proofs.YtdbjakibneeeiaaGreatDoor.queue
namespace Go.Proofs.YtdbjakibneeeiaaGreatDoor.queue
open Go.RowKit Sx txn
def mR (v:Int) (l:List Tx):List Tx:=l.filter fun x=>x.n != v
end Go.Proofs.YtdbjakibneeeiaaGreatDoor.queue


