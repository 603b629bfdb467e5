/- Layer 12 (greedy), by contract: the line of an account. -/
import Derived.Test.YtdbjakibneeeiaaGreatDoorKG21QueueT
import Derived.Test.YtdbjakibneeeiaaGreatDoorKG29Ord
import Derived.Test.YtdbjakibneeeiaaGreatDoorKG3SxB
import Derived.Test.YtdbjakibneeeiaaGreatDoorKG20SxA
import Derived.Test.YtdbjakibneeeiaaGreatDoorKG30PotFlt
import Derived.Test.YtdbjakibneeeiaaGreatDoorKG18QueueOpen
set_option linter.all false
set_option maxHeartbeats 4000000
set_option maxRecDepth 100000
namespace Go.Proofs.YtdbjakibneeeiaaGreatDoor.aL
open Go.RowKit Sx txn queue
section
variable {P : Program} {W : World} {G : Option Nat} {Q : Ending → World → Prop} {ds : List Deferred}
def nv {f:FuncId} {args:List Sx.T} {l:List Value} {m:M} {k:Value→List Fact→Tree} {n:Nat} {v:Option Addr→Nat→Value} {xs:List Value} (hv:aH args=some l) (hc:aP P f=true)
  (hC:∀β ρ w,Mem W G m β ρ w→Calls P f (List.toArray l) w fun e w'=>∃i:One,Sl i.1 n i.2∧dy w w' e (v i.1 i.2) [ay (pt i.1 n) xs]) (h:∀a c,Sl a n c→(∀g,(ay (pt a n) xs).g=some g→W.heap.size≤g)→(k (v a c) [ay (pt a n) xs]).aD P W G Q ds):(Tree.call f args m k).aD P W G Q ds:=
 rX (ι:=One) (ok:=fun i=>Sl i.1 n i.2∧∀g,(ay (pt i.1 n) xs).g=some g→W.heap.size≤g) (v:=fun i=>v i.1 i.2) (fs:=fun i=>[ay (pt i.1 n) xs]) hc (fun β ρ w vs hm hr=>by
  rw [aE _ _ _ hv hr]
  refine (hC β ρ w hm).mono fun e w' ⟨i,hi,hg⟩=>⟨i,⟨hi,fun g hgg=>Nat.le_trans hm.grown.size (hg.2.2 _ List.mem_cons_self g hgg).1⟩,hg⟩) (fun i hi=>h i.1 i.2 hi.1 hi.2)
end
def pR (p:Tx→Bool):∀(l:List Tx) (k:Nat),idx p l k = -1∨∃j:Nat,idx p l k=j∧k≤j∧j<k+l.length
 | [],k=>.inl rfl
 | x::l,k=>by
  unfold idx
  split
  ·exact .inr ⟨k,rfl,Nat.le_refl _,by simp⟩
  ·rcases pR p l (k+1) with h | ⟨j,h1,h2,h3⟩
   ·exact .inl h
   ·exact .inr ⟨j,h1,by omega,by simp;omega⟩
def bad (x:Tx):Bool:=!x.ok
def iC (r:List Tx):List Tx:=if idx bad r 0<0 then r else r.take (idx bad r 0).toNat
def cj (b:Int) (l:List Tx):List Tx:=iC (bu b l)
def I2 (x:Tx) (w:World) (hM:bA w):Calls Tryz.prog 225 (List.toArray [x.val]) w fun e w'=>e=.returned (.bool (bad x))∧Below w.heap.size w w':=by
 have CK:=fun w hM=>check x w hM
 refine au aq Tryz.func225 rfl [] (by kernel_rfl) [] (by simp) ?_
 conv=>arg 5;whnf
 refine iA (v:=.bool x.ok) rfl (by kernel_rfl) (fun β ρ w' hM'=>CK w' (hM.later hM'.below)) ?_
 conv=>arg 5;whnf
 exact av fun β ρ w' hM'=>⟨rfl,hM'.below⟩
def Jr (s b:Int) (l:List Tx) (a:Option Addr) (n c:Nat) (w:World) (hM:bA w) (hs:Sl a n c) (hn:n=l.length) (hrow:At w (pt a n) (ah l)) (hl:l.length≤1000000) :
  Calls Tryz.prog 210 (List.toArray [acc s b a n c]) w fun e w'=>∃i:One,Sl i.1 (cj b l).length i.2∧dy w w' e (.slice i.1 (cj b l).length i.2) [ay (pt i.1 (cj b l).length) (ah (cj b l))]:=by
 have RD:=fun w hr=>ready s b l a n c w hs hn hr hl
 have hlv:cj b l=iC (bu b l):=rfl
 rw [hlv]
 clear hlv
 generalize bu b l=r at *
 have IR:=pR bad r 0
 have IFN:=fun q c_q w hM (hs:Sl q r.length c_q) hr=>vC r q r.length c_q 225 [] bad w hs rfl hr (by kernel_rfl) fun x w2 _ hb=>I2 x w2 (bA.later hM hb)
 rcases IR with h | ⟨j,h,_,hj⟩
 ·have hlr:iC r=r:=by unfold iC;rw [h];rfl
  rw [h] at IFN
  rw [hlr]
  refine au aq Tryz.func210 rfl [] (by kernel_rfl) [ay (pt a n) (ah l)] (ru hrow) ?_
  conv=>arg 5;whnf
  refine nv (f:=224) (n:=r.length) (v:=fun a1 c1=>.slice a1 r.length c1) (xs:=ah r) rfl (by kernel_rfl) (fun β ρ w' hM'=>RD w' (hM'.at_ (.head _))) (fun q c_q h_q f_q=>?_)
  conv=>arg 5;whnf
  refine iA (v:=.int .i64 (-1)) rfl (by kernel_rfl) (fun β ρ w' hM'=>IFN q c_q w' (hM.later hM'.below) h_q (hM'.at_ (.head _))) ?_
  conv=>arg 5;whnf
  refine av fun β ρ w' hM'=>⟨(q,c_q),h_q,rfl,hM'.below,fun φ hφ g hg=>?_⟩
  simp only [List.mem_singleton] at hφ
  subst hφ
  exact ⟨f_q g hg,(hM'.fact _ (.head _) g hg).2⟩
 ·have hlr:iC r=r.take j:=by
   unfold iC
   rw [h,if_neg (by omega)]
   rfl
  have hlen:(r.take j).length=j:=by rw [List.length_take];omega
  rw [h] at IFN
  rw [hlr,hlen]
  refine au aq Tryz.func210 rfl [] (by kernel_rfl) [ay (pt a n) (ah l)] (ru hrow) ?_
  conv=>arg 5;whnf
  refine nv (f:=224) (n:=r.length) (v:=fun a1 c1=>.slice a1 r.length c1) (xs:=ah r) rfl (by kernel_rfl) (fun β ρ w' hM'=>RD w' (hM'.at_ (.head _))) (fun q c_q h_q f_q=>?_)
  conv=>arg 5;whnf
  refine iA (v:=.int .i64 (j:Nat)) rfl (by kernel_rfl) (fun β ρ w' hM'=>IFN q c_q w' (hM.later hM'.below) h_q (hM'.at_ (.head _))) ?_
  conv=>arg 5;whnf
  have hq1:=h_q.1
  refine b8 (.slice q j c_q) (fun w=>lp q r.length c_q j w (by omega)) ?_
  conv=>arg 5;whnf
  refine av fun β ρ w' hM'=>⟨(q,c_q),⟨by show j≤c_q;omega,h_q.2.1,fun hq=>⟨by have:=(h_q.2.2 hq).1;show j=0;omega,(h_q.2.2 hq).2⟩⟩,rfl,hM'.below,fun φ hφ g hg=>?_⟩
  simp only [List.mem_singleton] at hφ
  subst hφ
  have hA:=lN (hM'.at_ (.head _)) j (by omega)
  refine ⟨f_q g ?_,hA g hg⟩
  by_cases h0:j=0
  ·rw [show pt q j=none from if_pos h0] at hg;cases hg
  ·rw [show pt q j=q from if_neg h0] at hg
   rw [show pt q r.length=q from if_neg (by omega)]
   exact hg
end Go.Proofs.YtdbjakibneeeiaaGreatDoor.aL
namespace Go.Proofs.YtdbjakibneeeiaaGreatDoor.aL
open Go.RowKit Sx txn queue
structure Ln where
 s:Int
 a:Option Addr
 n:Nat
 c:Nat
 l:List Tx
def Ln.cs (x:Ln):List Value:=[.int .i64 x.s,.slice x.a x.n x.c]
def bw (L:List Ln):List Value:=L.flatMap Ln.cs
def vV {L:List Ln} {k:Nat} {x:Ln} (h:L[k]?=some x):∀(j:Nat) (u:Value),x.cs[j]?=some u→(bw L)[k*2+j]?=some u:=by
 induction L generalizing k with
 | nil=>simp at h
 | cons y L ih=>
  intro j u hu
  unfold bw
  rw [List.flatMap_cons]
  cases k with
  | zero=>
   simp at h;subst h
   have hj:j<y.cs.length:=(List.getElem?_eq_some_iff.1 hu).1
   rw [Nat.zero_mul,Nat.zero_add,List.getElem?_append_left hj];exact hu
  | succ k=>
   have:=ih (by simpa using h) j u hu
   rw [show (k+1)*2+j=y.cs.length+(k*2+j) from by show _=2+_;omega,List.getElem?_append_right (Nat.le_add_right _ _),Nat.add_sub_cancel_left]
   exact this
section
variable {W : World} {G : Option Nat} {Q : Ending → World → Prop} {ds : List Deferred}
def zx {ty:TypeId} {ad:Option Addr} {xs vs:List Value} {k sz n:Nat} {m:M} {K:Value→Tree} {a:Addr} (hty:lk env.agg ty=some (some sz)) (hl:vs.length=sz) (hm:ay (pt ad n) xs∈m.facts) (hk:k<n) (ha:ad.isSome=true)
  (hx:∀(j:Nat) (u:Value),vs[j]?=some u→xs[k*sz+j]?=some u) (haddr:a=(ad.getD ⟨0,0,none⟩).add (k*sz)) (h:(K (.agg vs.toArray)).aD Tryz.prog W G Q ds):(Tree.load ty a m K).aD Tryz.prog W G Q ds:=by
 rw [dR hk] at hm
 refine ⟨.agg vs.toArray,fun β ρ w hM=>?_,h⟩
 cases ad with
 | none=>cases ha
 | some ad=>
  have:=aq.aggN ty sz hty a w vs hl (fun j u hu=>by
   have hc:=(hM.at_ hm).cell (hx j u hu)
   rw [haddr]
   simp only [Option.getD_some]
   obtain ⟨b,o,sp⟩:=ad
   unfold Addr.add at hc ⊢
   by_cases h1:k*sz=0 <;> by_cases h2:j=0 <;> simp_all [Nat.add_assoc])
  rw [this]
end
def jd (L:List Ln):List (Int×Value):=L.foldl (fun m x=>if 0<x.n then cw m x.s (.int .i64 0) else m) []
def YP {L:List Ln} {k:Nat} {x:Ln} (h:L[k]?=some x):jd (L.take (k+1))=if 0<x.n then cw (jd (L.take k)) x.s (.int .i64 0) else jd (L.take k):=by
 unfold jd
 rw [List.take_add_one,h,List.foldl_append]
 rfl
def Ax (L:List Ln) (a:Option Addr) (n c:Nat) (w:World) (hs:Sl a n c) (hn:n=L.length) (hrow:At w (pt a n) (bw L)) :
  Calls Tryz.prog 175 (List.toArray [.slice a n c]) w fun e w'=>∃g:Nat,dy w w' e (.map (some g)) [bL g (jd L)]:=by
 have hn63:=hs.le
 have hbelow:∀g,w.heap.size≤g→(ay (pt a n) (bw L)).g=some g→False:=fun g hg e=>by
  obtain ⟨o,ho,_⟩:=hrow g e
  have:=(Array.getElem?_eq_some_iff.1 ho).1
  omega
 refine au aq Tryz.func175 rfl [] (by kernel_rfl) [ay (pt a n) (bw L)] (ru hrow) ?_
 conv=>arg 5;whnf
 refine jP rfl (fun g hg=>?_)
 conv=>arg 5;whnf
 refine cL aq [] (by kernel_rfl) (fun k:Nat=>k≤n) (fun k=>(⟨[],[],[bL g (jd (L.take k)),ay (pt a n) (bw L)]⟩,[.v (.slice a n c),.any,.any,.v (.map (some g)),.any,.any,.any,.v (.slice a n c),.v (.int .i64 n),.v (.int .i64 k),.any,.any,.any,.any,.any,.any,.any,.any,.any,.any,.any,.any])) (fun k=>n - k) 0 (Nat.zero_le _) ⟨by repeat' first | exact trivial | refine ⟨.inl rfl,?_⟩ | refine ⟨.inr rfl,?_⟩,⟨by repeat' first | exact trivial | refine ⟨.inl rfl,?_⟩ | refine ⟨.inr rfl,?_⟩,by repeat' first | exact trivial | refine ⟨.inl rfl,?_⟩ | refine ⟨.inr rfl,?_⟩,fun _ h=>h⟩,rfl⟩ ?_
 intro k hk
 conv=>arg 5;whnf
 refine bk (fun h1=>?_) (fun h1=>?_)
 ·have hlt:k<n:=by simp at h1;omega
  obtain ⟨x,hx⟩:∃x,L[k]?=some x:=⟨_,List.getElem?_eq_getElem (by omega)⟩
  have hbm:=YP hx
  conv=>arg 5;whnf
  refine ai ⟨by omega,by omega,hs.some hlt⟩ ?_
  conv=>arg 5;whnf
  refine zx (vs:=x.cs) (sz:=2) (k:=k) rfl rfl (.tail _ (.head _)) hlt (hs.some hlt) (vV hx) rfl ?_
  conv=>arg 5;whnf
  refine bk (fun h2=>?_) (fun h2=>?_)
  ·rw [if_pos (by simp at h2;omega)] at hbm
   conv=>arg 5;whnf
   refine gG (g:=g) (l:=jd (L.take k)) (x:=x.s) (v:=.int .i64 0) [bL g (jd (L.take (k+1))),ay (pt a n) (bw L)] rfl rfl rfl rfl Tryz.underlying222 Tryz.underlying3 (.head _) (.inl hg) (fun ψ hψ=>?_) ?_
   ·rcases List.mem_cons.1 hψ with rfl | hψ
    ·exact .inr (by rw [hbm])
    ·rcases List.mem_cons.1 hψ with rfl | hψ
     ·exact .inl ⟨.tail _ (.head _),fun e=>hbelow g hg e⟩
     ·cases hψ
   conv=>arg 5;whnf
   refine ai ⟨by omega,by omega⟩ ?_
   conv=>arg 5;whnf
   refine aO ⟨k+1,hlt,⟨by repeat' first | exact trivial | refine ⟨.inl rfl,?_⟩ | refine ⟨.inr rfl,?_⟩,⟨by repeat' first | exact trivial | refine ⟨.inl rfl,?_⟩ | refine ⟨.inr rfl,?_⟩,by repeat' first | exact trivial | refine ⟨.inl rfl,?_⟩ | refine ⟨.inr rfl,?_⟩,fun _ h=>h⟩,rfl⟩,by show n - (k+1)<n - k;omega⟩
  ·rw [if_neg (by simp at h2;omega)] at hbm
   conv=>arg 5;whnf
   refine ai ⟨by omega,by omega⟩ ?_
   rw [← hbm]
   conv=>arg 5;whnf
   refine aO ⟨k+1,hlt,⟨by repeat' first | exact trivial | refine ⟨.inl rfl,?_⟩ | refine ⟨.inr rfl,?_⟩,⟨by repeat' first | exact trivial | refine ⟨.inl rfl,?_⟩ | refine ⟨.inr rfl,?_⟩,by repeat' first | exact trivial | refine ⟨.inl rfl,?_⟩ | refine ⟨.inr rfl,?_⟩,fun _ h=>h⟩,rfl⟩,by show n - (k+1)<n - k;omega⟩
 ·have hkn:k=n:=by simp at h1;omega
  subst hkn
  conv=>arg 5;whnf
  refine av fun β ρ w' hM'=>⟨g,rfl,hM'.below,fun φ hφ g' hg'=>?_⟩
  simp only [List.mem_singleton] at hφ
  subst hφ
  cases hg'
  refine ⟨hg,?_⟩
  have:=(hM'.fact _ (.head _) g rfl).2
  rw [List.take_of_length_le (by omega)] at this
  exact this
end Go.Proofs.YtdbjakibneeeiaaGreatDoor.aL
namespace Go.Proofs.YtdbjakibneeeiaaGreatDoor.aL
open Go.RowKit Sx txn queue
def tR (m:List (Int×Value)) (x:Ln) (p:Nat):List (Int×Value):=if p+1=x.n then ie (cw m x.s (.int .i64 (p+1:Nat))) x.s else cw m x.s (.int .i64 (p+1:Nat))
def advance (m:List (Int×Value)) (x:Ln) (p g:Nat) (w:World) (hm:∃o,w.heap[g]?=some o∧(bL g m).holds o) (hp:ez m x.s=some (.int .i64 p)) (hpn:p<x.n) (hxn:x.n≤maxLen) :
  Calls Tryz.prog 177 (List.toArray [.map (some g),.agg #[.int .i64 x.s,.slice x.a x.n x.c]]) w fun e w'=>e=.returned (.tuple #[])∧w.grownBy w' (some g)∧∃o,w'.heap[g]?=some o∧(bL g (tR m x p)).holds o:=by
 have hmx:maxLen≤9223372036854775807:=by unfold maxLen;omega
 have hl1:=yd m x.s x.s (.int .i64 (p+1:Nat))
 rw [if_pos rfl] at hl1
 refine uO aq Tryz.func177 rfl [] (by kernel_rfl) (some g) [bL g m] (fun φ hφ g' hg'=>by simp only [List.mem_singleton] at hφ;subst hφ;cases hg';exact hm) ?_
 conv=>arg 5;whnf
 refine ct (z:=.int .i64 0) (l:=m) Tryz.underlying222 Tryz.underlying3 (fun w=>by kernel_rfl) (.head _) ?_
 rw [hp]
 conv=>arg 5;whnf
 refine ai ⟨by omega,by omega⟩ ?_
 rw [show (p:Int)+1=((p+1:Nat):Int) by omega]
 conv=>arg 5;whnf
 refine gG (g:=g) (l:=m) (x:=x.s) (v:=.int .i64 (p+1:Nat)) [bL g (cw m x.s (.int .i64 (p+1:Nat)))] rfl rfl rfl rfl Tryz.underlying222 Tryz.underlying3 (.head _) (.inr rfl) (fun ψ hψ=>by simp only [List.mem_singleton] at hψ;exact .inr hψ) ?_
 conv=>arg 5;whnf
 refine ct (z:=.int .i64 0) (l:=cw m x.s (.int .i64 (p+1:Nat))) Tryz.underlying222 Tryz.underlying3 (fun w=>by kernel_rfl) (.head _) ?_
 rw [hl1]
 conv=>arg 5;whnf
 refine bk (fun h=>?_) (fun h=>?_)
 ·have ha:tR m x p=ie (cw m x.s (.int .i64 (p+1:Nat))) x.s:=by unfold tR;rw [if_pos (by simp at h;omega)]
  rw [ha]
  conv=>arg 5;whnf
  refine vw (g:=g) (l:=cw m x.s (.int .i64 (p+1:Nat))) (x:=x.s) [bL g (ie (cw m x.s (.int .i64 (p+1:Nat))) x.s)] rfl rfl rfl Tryz.underlying222 Tryz.underlying3 (.head _) (.inr rfl) (fun ψ hψ=>by simp only [List.mem_singleton] at hψ;exact .inr hψ) ?_
  conv=>arg 5;whnf
  refine av fun β ρ w' hM'=>⟨rfl,hM'.grown,?_⟩
  exact (hM'.fact _ (.head _) g rfl).2
 ·have ha:tR m x p=cw m x.s (.int .i64 (p+1:Nat)):=by unfold tR;rw [if_neg (by simp at h;omega)]
  rw [ha]
  conv=>arg 5;whnf
  refine av fun β ρ w' hM'=>⟨rfl,hM'.grown,?_⟩
  exact (hM'.fact _ (.head _) g rfl).2
end Go.Proofs.YtdbjakibneeeiaaGreatDoor.aL
namespace Go.Proofs.YtdbjakibneeeiaaGreatDoor.aL
open Go.RowKit Sx txn queue
def tz:Tx:=⟨0,0,0,0,0,ByteArray.empty⟩
def lz:Ln:=⟨0,none,0,0,[]⟩
def nx (l:List Tx) (i:Nat):Tx:=l.getD i tz
def xJ {l:List Tx} {i:Nat} (h:i<l.length):l[i]?=some (nx l i):=by
 unfold nx
 rw [List.getD_eq_getElem?_getD,List.getElem?_eq_getElem h]
 rfl
def Gf {l:List Tx} {i:Nat} (h:i<l.length):nx l i∈l:=List.mem_of_getElem? (xJ h)
def Ab (m:List (Int×Value)) (x:Ln):Option Nat:=match ez m x.s with | some (.int .i64 p)=>some p.toNat | _=>none
def ni (m:List (Int×Value)) (q:Ln×Tx) (x:Ln):Ln×Tx:=match Ab m x with
 | some p=>if q.1.n=0∨cV (nx x.l p) q.2=true then (x,nx x.l p) else q
 | none=>q
def kH (m:List (Int×Value)) (L:List Ln):Ln×Tx:=L.foldl (ni m) (lz,tz)
def sg {m:List (Int×Value)} {L:List Ln} {k:Nat} {x:Ln} (h:L[k]?=some x):kH m (L.take (k+1))=ni m (kH m (L.take k)) x:=by
 unfold kH
 rw [List.take_add_one,h,List.foldl_append]
 rfl
def uJ (x:Ln):Fact:=ay (pt x.a x.n) (ah x.l)
def Ln.fit (x:Ln):Prop:=Sl x.a x.n x.c∧x.n=x.l.length∧∀t∈x.l,t.d.size≤maxLen
def Ai (m:List (Int×Value)) (L:List Ln):Prop:=∀x∈L,∀v,ez m x.s=some v→∃p:Nat,v=.int .i64 p∧p<x.n
def NJ (m:List (Int×Value)) (g:Nat) (L:List Ln) (a:Option Addr) (n c:Nat) (w:World) (hM:bA w) (hs:Sl a n c) (hn:n=L.length) (hrow:At w (pt a n) (bw L)) (hm:∃o,w.heap[g]?=some o∧(bL g m).holds o)
  (hf:∀x∈L,Ln.fit x∧At w (pt x.a x.n) (ah x.l)) (hp:Ai m L) :
  Calls Tryz.prog 176 (List.toArray [.slice a n c,.map (some g)]) w fun e w'=>e=.returned (.agg #[.int .i64 (kH m L).1.s,.slice (kH m L).1.a (kH m L).1.n (kH m L).1.c])∧Below w.heap.size w w':=by
 have hn63:=hs.le
 refine au aq.keeps Tryz.func176 rfl [(8,(line [0,1,2,3,4,5,6,7,8,9,10,11,12],[])),(9,(line [0,1,2,3,4,5,6,7],[1,2]))] (aQ _ _ (by kernel_rfl)) (bL g m::ay (pt a n) (bw L)::L.map uJ) (fun φ hφ g' hg'=>?_) ?_
 ·rcases List.mem_cons.1 hφ with rfl | hφ
  ·cases hg';exact hm
  ·rcases List.mem_cons.1 hφ with rfl | hφ
   ·exact hrow g' hg'
   ·obtain ⟨x,hx,rfl⟩:=List.mem_map.1 hφ
    exact (hf x hx).2 g' hg'
 conv=>arg 5;whnf
 refine cL aq.keeps [(8,(line [0,1,2,3,4,5,6,7,8,9,10,11,12],[])),(9,(line [0,1,2,3,4,5,6,7],[1,2]))] (aQ _ _ (by kernel_rfl)) (fun q:Nat×Ln×Tx=>q.1≤n∧q.2=kH m (L.take q.1)∧q.2.2.d.size≤maxLen) (fun q=>(⟨[some ([.v (.int .i64 lz.s),.v (.slice lz.a lz.n lz.c)],225),some ([.v (.int .i64 q.2.1.s),.v (.slice q.2.1.a q.2.1.n q.2.1.c)],225),some ([.v (.int .i64 q.2.2.s),.v (.int .i64 q.2.2.n),.v (.int .i64 q.2.2.t),.v (.int .i64 q.2.2.c),.v (.int .i64 q.2.2.g),.v (.string q.2.2.d)],26)],[],bL g m::ay (pt a n) (bw L)::L.map uJ⟩,[.v (.slice a n c),.v (.map (some g)),.any,.any,.p 0 0,.p 1 0,.p 2 0,.any,.any,.any,.any,.v (.slice a n c),.v (.int .i64 n),.v (.int .i64 q.1),.any,.any,.any,.any,.any,.any,.any,.any,.any,.any,.any,.any,.any,.any,.any,.any,.any,.any,.any,.any,.any,.any,.any,.any,.any,.any,.any,.any,.any,.any,.any,.any,.any])) (fun q=>n - q.1) (0,lz,tz) ⟨Nat.zero_le _,rfl,by show ByteArray.empty.size≤maxLen;decide⟩ ⟨by repeat' first | exact trivial | refine ⟨.inl rfl,?_⟩ | refine ⟨.inr rfl,?_⟩,⟨by repeat' first | exact trivial | refine ⟨.inl rfl,?_⟩ | refine ⟨.inr rfl,?_⟩,by repeat' first | exact trivial | refine ⟨.inl rfl,?_⟩ | refine ⟨.inr rfl,?_⟩,fun _ h=>h⟩,rfl⟩ ?_
 rintro ⟨k,y,ty⟩ ⟨hk,hq,hty⟩
 have hk:k≤n:=hk
 have hq:(y,ty)=kH m (L.take k):=hq
 have hty:ty.d.size≤maxLen:=hty
 conv=>arg 5;whnf
 refine bk (fun h1=>?_) (fun h1=>?_)
 ·have hlt:k<n:=by have h3:=of_decide_eq_true (show decide ((k:Int)<(n:Int))=true from h1);omega
  obtain ⟨x,hx⟩:∃x,L[k]?=some x:=⟨_,List.getElem?_eq_getElem (by omega)⟩
  have hxm:x∈L:=List.mem_of_getElem? hx
  have hbt:=sg (m:=m) hx
  obtain ⟨⟨xs,xn,xd⟩,_⟩:=hf x hxm
  have hpx:=hp x hxm
  rw [← hq] at hbt
  have hfm:ay (pt x.a x.n) (ah x.l)∈L.map uJ:=List.mem_map.2 ⟨x,hxm,rfl⟩
  conv=>arg 5;whnf
  refine ai ⟨by omega,by show (k:Int)<(n:Int);omega,hs.some hlt⟩ ?_
  conv=>arg 5;whnf
  refine zx (vs:=x.cs) (sz:=2) (k:=k) rfl rfl (.tail _ (.head _)) hlt (hs.some hlt) (vV hx) rfl ?_
  conv=>arg 5;whnf
  refine ct (z:=.int .i64 0) (l:=m) Tryz.underlying222 Tryz.underlying3 (fun w=>by kernel_rfl) (.head _) ?_
  cases hlk:ez m x.s with
  | none=>
   have hb2:ni m (y,ty) x=(y,ty):=by unfold ni Ab;rw [hlk]
   rw [hb2] at hbt
   conv=>arg 5;whnf
   refine ai ⟨by show -9223372036854775808≤(k:Int)+1;omega,by show (k:Int)+1≤9223372036854775807;omega⟩ ?_
   conv=>arg 5;whnf
   refine aO ⟨(k+1,y,ty),⟨hlt,hbt.symm,hty⟩,⟨by repeat' first | exact trivial | refine ⟨.inl rfl,?_⟩ | refine ⟨.inr rfl,?_⟩,⟨by repeat' first | exact trivial | refine ⟨.inl rfl,?_⟩ | refine ⟨.inr rfl,?_⟩,by repeat' first | exact trivial | refine ⟨.inl rfl,?_⟩ | refine ⟨.inr rfl,?_⟩,fun _ h=>h⟩,rfl⟩,by show n - (k+1)<n - k;omega⟩
  | some v=>
   obtain ⟨p,rfl,hpn⟩:=hpx v hlk
   have hb2:ni m (y,ty) x=if y.n=0∨cV (nx x.l p) ty=true then (x,nx x.l p) else (y,ty):=by unfold ni Ab;rw [hlk];rfl
   rw [hb2] at hbt
   have hz:=xJ (l:=x.l) (i:=p) (by omega)
   have hdz:=xd _ (Gf (l:=x.l) (i:=p) (by omega))
   have BT:=fun w hM=>better (nx x.l p) ty w hM hdz hty
   generalize nx x.l p=z at *
   conv=>arg 5;whnf
   refine Ck (fun h2=>?_) (fun h2=>?_)
   ·have hy0:¬ y.n=0:=by intro h;rw [h] at h2;simp at h2
    conv=>arg 5;whnf
    refine ai ⟨by omega,by show (p:Int)<(x.n:Int);omega,xs.some hpn⟩ ?_
    conv=>arg 5;whnf
    refine mV (l:=x.l) (k:=p) rfl (.tail _ (.tail _ hfm)) hpn (xs.some hpn) hz rfl ?_
    conv=>arg 5;whnf
    refine iA (v:=.bool (cV z ty)) rfl (by kernel_rfl) (fun β ρ w' hM'=>BT w' (hM.later hM'.below)) ?_
    conv=>arg 5;whnf
    refine bk (fun h3=>?_) (fun h3=>?_)
    ·rw [if_pos (.inr h3)] at hbt
     conv=>arg 5;whnf
     refine ai ⟨by omega,by show (p:Int)<(x.n:Int);omega,xs.some hpn⟩ ?_
     conv=>arg 5;whnf
     refine mV (l:=x.l) (k:=p) rfl (.tail _ (.tail _ hfm)) hpn (xs.some hpn) hz rfl ?_
     conv=>arg 5;whnf
     refine ai ⟨by show -9223372036854775808≤(k:Int)+1;omega,by show (k:Int)+1≤9223372036854775807;omega⟩ ?_
     conv=>arg 5;whnf
     refine aO ⟨(k+1,x,z),⟨hlt,hbt.symm,hdz⟩,⟨by repeat' first | exact trivial | refine ⟨.inl rfl,?_⟩ | refine ⟨.inr rfl,?_⟩,⟨by repeat' first | exact trivial | refine ⟨.inl rfl,?_⟩ | refine ⟨.inr rfl,?_⟩,by repeat' first | exact trivial | refine ⟨.inl rfl,?_⟩ | refine ⟨.inr rfl,?_⟩,fun _ h=>h⟩,rfl⟩,by show n - (k+1)<n - k;omega⟩
    ·rw [if_neg (by rw [h3];simp [hy0])] at hbt
     conv=>arg 5;whnf
     refine ai ⟨by show -9223372036854775808≤(k:Int)+1;omega,by show (k:Int)+1≤9223372036854775807;omega⟩ ?_
     conv=>arg 5;whnf
     refine aO ⟨(k+1,y,ty),⟨hlt,hbt.symm,hty⟩,⟨by repeat' first | exact trivial | refine ⟨.inl rfl,?_⟩ | refine ⟨.inr rfl,?_⟩,⟨by repeat' first | exact trivial | refine ⟨.inl rfl,?_⟩ | refine ⟨.inr rfl,?_⟩,by repeat' first | exact trivial | refine ⟨.inl rfl,?_⟩ | refine ⟨.inr rfl,?_⟩,fun _ h=>h⟩,rfl⟩,by show n - (k+1)<n - k;omega⟩
   ·have hy0:y.n=0:=by simp at h2;omega
    rw [if_pos (.inl hy0)] at hbt
    conv=>arg 5;whnf
    refine ai ⟨by omega,by show (p:Int)<(x.n:Int);omega,xs.some hpn⟩ ?_
    conv=>arg 5;whnf
    refine mV (l:=x.l) (k:=p) rfl (.tail _ (.tail _ hfm)) hpn (xs.some hpn) hz rfl ?_
    conv=>arg 5;whnf
    refine ai ⟨by show -9223372036854775808≤(k:Int)+1;omega,by show (k:Int)+1≤9223372036854775807;omega⟩ ?_
    conv=>arg 5;whnf
    refine aO ⟨(k+1,x,z),⟨hlt,hbt.symm,hdz⟩,⟨by repeat' first | exact trivial | refine ⟨.inl rfl,?_⟩ | refine ⟨.inr rfl,?_⟩,⟨by repeat' first | exact trivial | refine ⟨.inl rfl,?_⟩ | refine ⟨.inr rfl,?_⟩,by repeat' first | exact trivial | refine ⟨.inl rfl,?_⟩ | refine ⟨.inr rfl,?_⟩,fun _ h=>h⟩,rfl⟩,by show n - (k+1)<n - k;omega⟩
 ·have hkn:k=n:=by have h3:=of_decide_eq_false (show decide ((k:Int)<(n:Int))=false from h1);omega
  rw [List.take_of_length_le (by omega)] at hq
  rw [← hq]
  conv=>arg 5;whnf
  exact av fun β ρ w' hM'=>⟨rfl,hM'.below⟩
end Go.Proofs.YtdbjakibneeeiaaGreatDoor.aL
namespace Go.Proofs.YtdbjakibneeeiaaGreatDoor.aL
open Go.RowKit Sx txn queue
def oO {w:World} {base:Nat} {e:TypeId} {size:Nat} {v:Value} {n:Nat} {xs:List Value} (h:w.ownsRow base e size v n xs):∃a c,v=.slice a n c∧Sl a n c∧(∀ad,a=some ad→base≤ad.block)∧At w (pt a n) xs:=by
 obtain ⟨hl,⟨rfl,rfl⟩ | ⟨g,cap,cur,rfl,hb,hg,hn,hc,hsz,hx⟩⟩:=h
 ·exact ⟨none,0,rfl,⟨Nat.le_refl _,Nat.zero_le _,fun _=>⟨rfl,rfl⟩⟩,fun ad h=>(by cases h),fun g hg=>(by cases hg)⟩
 ·refine ⟨_,cap,rfl,⟨hn,hc,fun h=>(by cases h)⟩,fun ad h=>(by cases h;exact hb),?_⟩
  by_cases h0:n=0
  ·rw [show pt _ n=none from if_pos h0]
   intro g hg
   cases hg
  ·rw [show pt _ n=_ from if_neg h0]
   intro g' hg'
   cases hg'
   refine ⟨_,hg,fun ad had=>?_⟩
   cases had
   refine ⟨rfl,cur,e,_,rfl,fun j u hu=>?_⟩
   have hj:j<n*size:=by
    have:=(List.getElem?_eq_some_iff.1 hu).1
    omega
   rw [← hx,List.getElem?_take,if_pos hj,Array.getElem?_toList] at hu
   simpa using hu
def DX {W w':World} {a:Option Addr} {n:Nat} {xs:List Value} (h:∀ad,a=some ad→W.heap.size≤ad.block) (hat:At w' (pt a n) xs):∀g,(ay (pt a n) xs).g=some g→W.heap.size≤g∧∃o,w'.heap[g]?=some o∧(ay (pt a n) xs).holds o:=fun g hg=>by
 refine ⟨?_,hat g hg⟩
 by_cases h0:n=0
 ·rw [show ay (pt a n) xs=ay none xs by rw [show pt a n=none from if_pos h0]] at hg;cases hg
 ·rw [show ay (pt a n) xs=ay a xs by rw [show pt a n=a from if_neg h0]] at hg
  cases a with
  | none=>cases hg
  | some ad=>cases hg;exact h ad rfl
structure Ac where
 s:Int
 b:Int
 a:Option Addr
 n:Nat
 c:Nat
 l:List Tx
def Ac.cs (x:Ac):List Value:=[.int .i64 x.s,.int .i64 x.b,.slice x.a x.n x.c]
def aF (L:List Ac):List Value:=L.flatMap Ac.cs
def jb (L:List Ac):(aF L).length=L.length*3:=by
 induction L with
 | nil=>rfl
 | cons x L ih=>unfold aF at *;rw [List.flatMap_cons,List.length_append,ih];simp [Ac.cs];omega
def fQ {L:List Ac} {k:Nat} {x:Ac} (h:L[k]?=some x):∀(j:Nat) (u:Value),x.cs[j]?=some u→(aF L)[k*3+j]?=some u:=by
 induction L generalizing k with
 | nil=>simp at h
 | cons y L ih=>
  intro j u hu
  unfold aF
  rw [List.flatMap_cons]
  cases k with
  | zero=>
   simp at h;subst h
   have hj:j<y.cs.length:=(List.getElem?_eq_some_iff.1 hu).1
   rw [Nat.zero_mul,Nat.zero_add,List.getElem?_append_left hj];exact hu
  | succ k=>
   have:=ih (by simpa using h) j u hu
   rw [show (k+1)*3+j=y.cs.length+(k*3+j) from by show _=3+_;omega,List.getElem?_append_right (Nat.le_add_right _ _),Nat.add_sub_cancel_left]
   exact this
def HB (x:Ac):Fact:=ay (pt x.a x.n) (ah x.l)
def Ac.fit (x:Ac):Prop:=Sl x.a x.n x.c∧x.n=x.l.length∧x.l.length≤1000000∧∀t∈x.l,t.d.size≤maxLen
def zB (w:World) (a:Option Addr) (n c:Nat) (L:List Ac):Prop:=Sl a n c∧n=L.length∧At w (pt a n) (aF L)∧∀x∈L,x.fit∧At w (pt x.a x.n) (ah x.l)
def dm (a:Option Addr) (n:Nat) (L:List Ac):List Fact:=ay (pt a n) (aF L)::L.map HB
def zB.facts {w:World} {a n c L} (h:zB w a n c L):∀φ∈dm a n L,∀g,φ.g=some g→∃o,w.heap[g]?=some o∧φ.holds o:=by
 intro φ hφ g hg
 rcases List.mem_cons.1 hφ with rfl | hφ
 ·exact h.2.2.1 g hg
 ·obtain ⟨x,hx,rfl⟩:=List.mem_map.1 hφ
  exact (h.2.2.2 x hx).2 g hg
def Mem.RI {W:World} {G:Option Nat} {m:M} {β ρ} {w w0:World} {a n c L} (h0:zB w0 a n c L) (hM:Mem W G m β ρ w) (hm:∀φ∈dm a n L,φ∈m.facts):zB w a n c L:=
 ⟨h0.1,h0.2.1,hM.at_ (hm _ (.head _)),fun x hx=>⟨(h0.2.2.2 x hx).1,hM.at_ (hm _ (.tail _ (List.mem_map.2 ⟨x,hx,rfl⟩)))⟩⟩
def Aj (m:List (Int×Value)) (s:Int):Int:=match ez m s with | some (.int _ c)=>c | _=>0
def fc (L:List Ac):List (Int×Value):=L.foldl (fun m x=>cw m x.s (.int .i64 (Aj m x.s+1))) []
def cnt (L:List Ac) (s:Int):Nat:=(L.filter fun x=>x.s==s).length
def HK (L:List Ac) (y:Ac) (s:Int):cnt (L++[y]) s=cnt L s+if y.s=s then 1 else 0:=by
 unfold cnt
 rw [List.filter_append,List.length_append]
 by_cases h:y.s=s <;> simp [h]
def DF (L:List Ac) (k:Nat):∀s,(ez (fc (L.take k)) s=none∧cnt (L.take k) s=0)∨∃c:Nat,ez (fc (L.take k)) s=some (.int .i64 c)∧cnt (L.take k) s=c∧0<c:=by
 induction k with
 | zero=>intro s;exact .inl ⟨rfl,rfl⟩
 | succ k ih=>
  intro s
  cases hx:L[k]? with
  | none=>rw [List.take_add_one,hx];simpa using ih s
  | some y=>
   have e:fc (L.take (k+1))=cw (fc (L.take k)) y.s (.int .i64 (Aj (fc (L.take k)) y.s+1)):=by
    unfold fc
    rw [List.take_add_one,hx,List.foldl_append]
    rfl
   have e2:cnt (L.take (k+1)) s=cnt (L.take k) s+if y.s=s then 1 else 0:=by
    rw [List.take_add_one,hx];exact HK _ _ _
   rw [e,e2,yd]
   by_cases h:y.s=s
   ·subst h
    rw [if_pos rfl,if_pos rfl]
    refine .inr ⟨cnt (L.take k) y.s+1,?_,rfl,by omega⟩
    rcases ih y.s with ⟨h1,h2⟩ | ⟨c,h1,h2,_⟩
    ·unfold Aj;rw [h1,h2];rfl
    ·unfold Aj;rw [h1,h2];rfl
   ·rw [if_neg h,if_neg h];exact ih s
def Zv (L:List Ac) (y:Ac):List Ac:=if L.any (fun x=>x.s==y.s) then L else L++[y]
def aA (L:List Ac):List Ac:=L.foldl Zv []
def gC {L:List Ac} {k:Nat} {x:Ac} (h:L[k]?=some x):aA (L.take (k+1))=Zv (aA (L.take k)) x:=by
 unfold aA
 rw [List.take_add_one,h,List.foldl_append]
 rfl
def lV (L:List Ac) (k:Nat) (s:Int):(aA (L.take k)).any (fun x=>x.s==s)=(L.take k).any fun x=>x.s==s:=by
 induction k with
 | zero=>rfl
 | succ k ih=>
  cases hx:L[k]? with
  | none=>rw [List.take_add_one,hx];simpa using ih
  | some y=>
   rw [gC hx,List.take_add_one,hx]
   unfold Zv
   rw [List.any_append]
   by_cases h:(aA (L.take k)).any (fun x=>x.s==y.s)
   ·rw [if_pos h,ih]
    by_cases hs:y.s=s
    ·subst hs;rw [← ih,h];rfl
    ·simp [hs]
   ·rw [if_neg h,List.any_append,ih];rfl
def C0 (L:List Ac) (s:Int):cnt L s=0↔L.any (fun x=>x.s==s)=false:=by
 unfold cnt
 rw [List.length_eq_zero_iff,List.filter_eq_nil_iff]
 simp [List.any_eq_false]
def xj (x:Ac):Int×List Tx:=(x.s,cj x.b x.l)
def GW (x:Ln):Int×List Tx:=(x.s,x.l)
def nE (L:List Ac) (k:Nat):(aA (L.take k)).length≤k:=by
 induction k with
 | zero=>simp [aA]
 | succ k ih=>
  cases hx:L[k]? with
  | none=>rw [List.take_add_one,hx];simp;omega
  | some y=>
   rw [gC hx]
   unfold Zv
   split
   ·omega
   ·rw [List.length_append];simp;omega
def nk (L:List Ln):(bw L).length=L.length*2:=by
 induction L with
 | nil=>rfl
 | cons x L ih=>unfold bw at *;rw [List.flatMap_cons,List.length_append,ih];simp [Ln.cs];omega
def uR (L:List Ln) (x:Ln):bw (L++[x])=bw L++x.cs:=by simp [bw]
def wq {b:Int} {l:List Tx}:∀t∈cj b l,t∈l:=by
 intro t ht
 have h1:t∈bu b l:=by
  unfold cj iC at ht
  split at ht
  ·exact ht
  ·exact List.mem_of_mem_take ht
 exact List.mem_of_mem_take h1
section
variable {P : Program} {W : World} {G : Option Nat} {Q : Ending → World → Prop} {ds : List Deferred}
def KC {f:FuncId} {args:List Sx.T} {l:List Value} {m:M} {k:Value→List Fact→Tree} {n:Nat} {v:Option Addr→Nat→Value} {xs:List Value} (hv:aH args=some l) (hc:aP P f=true)
  (hC:∀β ρ w,Mem W G m β ρ w→Calls P f (List.toArray l) w fun e w'=>∃i:One,Sl i.1 n i.2∧dy w w' e (v i.1 i.2) [ay (pt i.1 n) xs]) (h:∀a c,Sl a n c→(∀g,(ay (pt a n) xs).g=some g→W.heap.size≤g∧∀φ∈m.facts,φ.g≠some g)→(k (v a c) [ay (pt a n) xs]).aD P W G Q ds):(Tree.call f args m k).aD P W G Q ds:=
 rX (ι:=One) (ok:=fun i=>Sl i.1 n i.2∧∀g,(ay (pt i.1 n) xs).g=some g→W.heap.size≤g∧∀φ∈m.facts,φ.g≠some g) (v:=fun i=>v i.1 i.2) (fs:=fun i=>[ay (pt i.1 n) xs]) hc (fun β ρ w vs hm hr=>by
  rw [aE _ _ _ hv hr]
  refine (hC β ρ w hm).mono fun e w' ⟨i,hi,hg⟩=>⟨i,⟨hi,fun g he=>?_⟩,hg⟩
  have h1:=(hg.2.2 _ List.mem_cons_self g he).1
  refine ⟨Nat.le_trans hm.grown.size h1,fun φ hφ hgφ=>?_⟩
  obtain ⟨o,ho,_⟩:=(hm.fact φ hφ g hgφ).2
  have h2:=(Array.getElem?_eq_some_iff.1 ho).1
  omega) (fun i hi=>h i.1 i.2 hi.1 hi.2)
end
def lines (L:List Ac) (a:Option Addr) (n c:Nat) (w:World) (hM:bA w) (hA:zB w a n c L) (h1000:n≤1000000) :
  Calls Tryz.prog 174 (List.toArray [.slice a n c]) w fun e w'=>∃(i:One) (Ls:List Ln),Ls.map GW=(aA L).map xj∧(∀x∈Ls,Ln.fit x)∧Sl i.1 Ls.length i.2∧dy w w' e (.slice i.1 Ls.length i.2) (ay (pt i.1 Ls.length) (bw Ls)::Ls.map uJ):=by
 have hs:=hA.1
 have hn:=hA.2.1
 have hn63:=hs.le
 have hbelow:∀g,w.heap.size≤g→∀φ∈dm a n L,φ.g≠some g:=fun g hg φ hφ e=>by
  obtain ⟨o,ho,_⟩:=hA.facts φ hφ g e
  have:=(Array.getElem?_eq_some_iff.1 ho).1
  omega
 refine au (aq.keeps.open_ [1000000] true) Tryz.func174 rfl [(8,(line [0,1,2,3,4,5,6,7,8],[]))] (aQ _ _ (by kernel_rfl)) (gB (.slice none 0 0) 225 2 0 (bw [])::dm a n L) (fun φ hφ g' hg'=>(List.mem_cons.1 hφ).elim (fun e=>by subst e;cases hg') fun hφ=>hA.facts φ hφ g' hg') ?_
 conv=>arg 5;whnf
 refine jP rfl (fun g hg=>?_)
 conv=>arg 5;whnf
 refine eV (aq.keeps.open_ [1000000] true) [(8,(line [0,1,2,3,4,5,6,7,8],[]))] (aQ _ _ (by kernel_rfl)) [0,0] (fun q:Nat×List Ln×Value=>q.1≤n∧q.2.1.map GW=(aA (L.take q.1)).map xj∧(∀x∈q.2.1,Ln.fit x)∧(∀φ∈q.2.1.map uJ,∀g',φ.g=some g'→w.heap.size≤g'∧g'≠g)∧TV w q.2.2 q.2.1.length∧(∀φ∈bL g []::(q.2.1.map uJ++dm a n L),∀g',φ.g=some g'→q.2.2.ownBlock≠some g')) (fun q=>(⟨[],[],bL g (fc (L.take q.1))::gB q.2.2 225 2 q.2.1.length (bw q.2.1)::(q.2.1.map uJ++dm a n L)⟩,[.v (.slice a n c),.any,.any,.v q.2.2,.v (.map (some g)),.any,.any,.any,.v (.slice a n c),.v (.int .i64 n),.v (.int .i64 q.1),.any,.any,.any,.any,.any,.any,.any,.any,.any,.any,.any,.any,.any,.any,.any,.any,.any,.any,.any,.any,.any,.any,.any])) (fun q=>n - q.1) (0,[],.slice none 0 0) ⟨Nat.zero_le _,rfl,by simp,by simp,M3,by intro φ _ g' _ e;cases e⟩ ⟨by repeat' first | exact trivial | refine ⟨.inl rfl,?_⟩ | refine ⟨.inr rfl,?_⟩,⟨by repeat' first | exact trivial | refine ⟨.inl rfl,?_⟩ | refine ⟨.inr rfl,?_⟩,by repeat' first | exact trivial | refine ⟨.inl rfl,?_⟩ | refine ⟨.inr rfl,?_⟩,fun _ h=>h⟩,rfl⟩ ?_
 rintro ⟨k,Q,va⟩ ⟨hk,hq,hfit,hfr,hV,hva⟩
 have hk:k≤n:=hk
 have hq:Q.map GW=(aA (L.take k)).map xj:=hq
 have hfit:∀x∈Q,Ln.fit x:=hfit
 have hfr:∀φ∈Q.map uJ,∀g',φ.g=some g'→w.heap.size≤g'∧g'≠g:=hfr
 have hV:TV w va Q.length:=hV
 have hva:∀φ∈bL g []::(Q.map uJ++dm a n L),∀g',φ.g=some g'→va.ownBlock≠some g':=hva
 conv=>arg 5;whnf
 refine bk (fun h1=>?_) (fun h1=>?_)
 ·have hlt:k<n:=by have h3:=of_decide_eq_true (show decide ((k:Int)<(n:Int))=true from h1);omega
  obtain ⟨x,hx⟩:∃x,L[k]?=some x:=⟨_,List.getElem?_eq_getElem (by omega)⟩
  have hxm:x∈L:=List.mem_of_getElem? hx
  conv=>arg 5;whnf
  refine ai ⟨by omega,by show (k:Int)<(n:Int);omega,hs.some hlt⟩ ?_
  conv=>arg 5;whnf
  refine zx (vs:=x.cs) (sz:=3) (k:=k) rfl rfl (.tail _ (.tail _ (List.mem_append_right _ (.head _)))) hlt (hs.some hlt) (fQ hx) rfl ?_
  conv=>arg 5;whnf
  refine ct (z:=.int .i64 0) (l:=fc (L.take k)) Tryz.underlying222 Tryz.underlying3 (fun w=>by kernel_rfl) (.head _) ?_
  obtain ⟨c',hc',hlk,hck⟩:∃c':Nat,cnt (L.take k) x.s=c'∧(ez (fc (L.take k)) x.s).getD (.int .i64 0)=.int .i64 (c':Int)∧Aj (fc (L.take k)) x.s=(c':Int):=by
   rcases DF L k x.s with ⟨h2,h3⟩ | ⟨c',h2,h3,_⟩
   ·exact ⟨0,h3,by rw [h2];rfl,by unfold Aj;rw [h2];rfl⟩
   ·exact ⟨c',h3,by rw [h2];rfl,by unfold Aj;rw [h2]⟩
  have hck2:c'≤k:=by
   rw [← hc']
   unfold cnt
   refine Nat.le_trans (List.length_filter_le _ _) ?_
   rw [List.length_take];omega
  have hsm:fc (L.take (k+1))=cw (fc (L.take k)) x.s (.int .i64 ((c':Int)+1)):=by
   rw [← hck]
   unfold fc
   rw [List.take_add_one,hx,List.foldl_append]
   rfl
  have hlk2:(ez (cw (fc (L.take k)) x.s (.int .i64 ((c':Int)+1))) x.s).getD (.int .i64 0)=.int .i64 ((c':Int)+1):=by
   rw [yd,if_pos rfl];rfl
  have hft:=gC hx
  have hapart:∀ψ∈gB va 225 2 Q.length (bw Q)::(Q.map uJ++dm a n L),ψ.g≠some g:=fun ψ hψ=>by
   rcases List.mem_cons.1 hψ with rfl | hψ
   ·exact hva _ (.head _) g rfl
   ·rcases List.mem_append.1 hψ with hψ | hψ
    ·exact fun e=>(hfr ψ hψ g e).2 rfl
    ·exact hbelow g hg ψ hψ
  rw [show (if false=true then Value.tuple #[(ez (fc (List.take k L)) x.s).getD (.int .i64 0),.bool (ez (fc (List.take k L)) x.s).isSome] else (ez (fc (List.take k L)) x.s).getD (.int .i64 0))=.int .i64 (c':Int) from hlk]
  generalize fc (L.take k)=S at *
  conv=>arg 5;whnf
  refine ai ⟨by omega,by omega⟩ ?_
  conv=>arg 5;whnf
  refine gG (g:=g) (l:=S) (x:=x.s) (v:=.int .i64 ((c':Int)+1)) (bL g (cw S x.s (.int .i64 ((c':Int)+1)))::gB va 225 2 Q.length (bw Q)::(Q.map uJ++dm a n L)) rfl rfl rfl rfl Tryz.underlying222 Tryz.underlying3 (.head _) (.inl hg) (fun ψ hψ=>(List.mem_cons.1 hψ).elim .inr fun hψ=>.inl ⟨.tail _ hψ,hapart ψ hψ⟩) ?_
  conv=>arg 5;whnf
  refine ct (z:=.int .i64 0) (l:=cw S x.s (.int .i64 ((c':Int)+1))) Tryz.underlying222 Tryz.underlying3 (fun w=>by kernel_rfl) (.head _) ?_
  rw [show (if false=true then Value.tuple #[(ez (cw S x.s (.int .i64 ((c':Int)+1))) x.s).getD (.int .i64 0),.bool (ez (cw S x.s (.int .i64 ((c':Int)+1))) x.s).isSome] else (ez (cw S x.s (.int .i64 ((c':Int)+1))) x.s).getD (.int .i64 0))=.int .i64 ((c':Int)+1) from hlk2]
  conv=>arg 5;whnf
  refine bk (fun h2=>?_) (fun h2=>?_)
  ·have h0:c'=0:=by have h3:=of_decide_eq_true h2;omega
   have hany:=(C0 _ _).1 (hc'.trans h0)
   rw [← lV] at hany
   have hft:aA (L.take (k+1))=aA (L.take k)++[x]:=by rw [hft];unfold Zv;rw [if_neg (by rw [hany];simp)]
   obtain ⟨⟨xs,xn,xl,xd⟩,_⟩:=hA.2.2.2 x hxm
   have hQ:Q.length≤k:=by
    have h4:=congrArg List.length hq
    simp only [List.length_map] at h4
    rw [h4];exact nE L k
   have hlm:(cj x.b x.l).length≤1000000:=by
    refine Nat.le_trans ?_ xl
    unfold cj iC bu
    split <;> simp [List.length_take] <;> omega
   have LO:=fun w hM hr=>Jr x.s x.b x.l x.a x.n x.c w hM xs xn hr xl
   have hld:∀t∈cj x.b x.l,t.d.size≤maxLen:=fun t ht=>xd t (wq t ht)
   have hlo:xj x=(x.s,cj x.b x.l):=rfl
   generalize cj x.b x.l=v at *
   conv=>arg 5;whnf
   refine KC (f:=210) (n:=v.length) (v:=fun a1 c1=>.slice a1 v.length c1) (xs:=ah v) rfl (by kernel_rfl) (fun β ρ w' hM'=>LO w' (hM.later hM'.below) (hM'.at_ (.tail _ (.tail _ (List.mem_append_right _ (.tail _ (List.mem_map.2 ⟨x,hxm,rfl⟩))))))) (fun y c_y h_y f_y=>?_)
   have ec:bw (Q++[⟨x.s,y,v.length,c_y,v⟩])=bw Q++[.int .i64 x.s,.slice y v.length c_y]:=uR Q _
   have el:(Q++[(⟨x.s,y,v.length,c_y,v⟩:Ln)]).length=Q.length+1:=by simp
   have hfs:∀ψ∈ay (pt y v.length) (ah v)::bL g (cw S x.s (.int .i64 ((c':Int)+1)))::(Q.map uJ++dm a n L),ψ∈ay (pt y v.length) (ah v)::bL g (cw S x.s (.int .i64 ((c':Int)+1)))::gB va 225 2 Q.length (bw Q)::(Q.map uJ++dm a n L)∧∀g',ψ.g=some g'→va.ownBlock≠some g':=fun ψ hψ=>by
    rcases List.mem_cons.1 hψ with rfl | hψ
    ·exact ⟨.head _,fun g' hg'=>(f_y g' hg').2 _ (.tail _ (.head _))⟩
    ·rcases List.mem_cons.1 hψ with rfl | hψ
     ·exact ⟨.tail _ (.head _),fun g' hg'=>hva _ (.head _) g' hg'⟩
     ·exact ⟨.tail _ (.tail _ (.tail _ hψ)),fun g' hg'=>hva ψ (.tail _ hψ) g' hg'⟩
   conv=>arg 5;whnf
   refine Bf (aq.keeps.open_ [1000000] true) (v:=va) (n:=Q.length) (xs:=bw Q) (news:=[.int .i64 x.s,.slice y v.length c_y]) (ay (pt y v.length) (ah v)::bL g (cw S x.s (.int .i64 ((c':Int)+1)))::(Q.map uJ++dm a n L)) rfl rfl rfl rfl rfl rfl (by exact (.tail _ (.tail _ (.head _)))) hV (nk _) (by show Q.length+1≤maxLen;unfold maxLen;omega) (by show (Q.length+1)*32≤_;omega) (by intro F hF;cases hF;exact .inr ⟨_,.tail _ (.head _),rfl⟩) (by exact hfs) (fun v2 hV2 hap=>?_)
   conv=>arg 5;whnf
   refine ai ⟨by show -9223372036854775808≤(k:Int)+1;omega,by show (k:Int)+1≤9223372036854775807;omega⟩ ?_
   refine aO ⟨(k+1,Q++[⟨x.s,y,v.length,c_y,v⟩],v2),⟨hlt,?_,?_,?_,by show TV w v2 _;rw [el];exact hV2,?_⟩,?_,by show n - (k+1)<n - k;omega⟩
   ·show (Q++[(⟨x.s,y,v.length,c_y,v⟩:Ln)]).map GW=(aA (L.take (k+1))).map xj
    rw [List.map_append,hq,hft,List.map_append];simp [GW,hlo]
   ·exact fun z hz=>(List.mem_append.1 hz).elim (hfit z) fun hz=>by obtain rfl:=List.mem_singleton.1 hz;exact ⟨h_y,rfl,hld⟩
   ·intro φ hφ g' hg'
    rcases List.mem_map.1 hφ with ⟨z,hz,rfl⟩
    rcases List.mem_append.1 hz with hz | hz
    ·exact hfr _ (List.mem_map.2 ⟨z,hz,rfl⟩) g' hg'
    ·obtain rfl:=List.mem_singleton.1 hz
     exact ⟨(f_y g' hg').1,fun e=>by subst e;exact (f_y _ hg').2 _ (.head _) rfl⟩
   ·intro φ hφ g' hg'
    rcases List.mem_cons.1 hφ with rfl | hφ
    ·exact hap _ (.tail _ (.head _)) g' hg'
    ·rcases List.mem_append.1 hφ with hφ | hφ
     ·obtain ⟨z,hz,rfl⟩:=List.mem_map.1 hφ
      rcases List.mem_append.1 hz with hz | hz
      ·exact hap _ (.tail _ (.tail _ (List.mem_append_left _ (List.mem_map.2 ⟨z,hz,rfl⟩)))) g' hg'
      ·obtain rfl:=List.mem_singleton.1 hz;exact hap _ (.head _) g' hg'
     ·exact hap _ (.tail _ (.tail _ (List.mem_append_right _ hφ))) g' hg'
   ·have hms:bL g (fc (L.take (k+1)))=bL g (cw S x.s (.int .i64 ((c':Int)+1))):=by rw [hsm]
    exact ⟨by repeat' first | exact trivial | refine ⟨.inl rfl,?_⟩ | refine ⟨.inr rfl,?_⟩,⟨by repeat' first | exact trivial | refine ⟨.inl rfl,?_⟩ | refine ⟨.inr rfl,?_⟩,by repeat' first | exact trivial | refine ⟨.inl rfl,?_⟩ | refine ⟨.inr rfl,?_⟩,fun φ hφ=>by
     rcases List.mem_cons.1 hφ with rfl | hφ
     ·rw [hms];exact .tail _ (.tail _ (.head _))
     ·rcases List.mem_cons.1 hφ with rfl | hφ
      ·simp only [ec,el];exact .head _
      ·rcases List.mem_append.1 hφ with hφ | hφ
       ·obtain ⟨z,hz,rfl⟩:=List.mem_map.1 hφ
        rcases List.mem_append.1 hz with hz | hz
        ·exact .tail _ (.tail _ (.tail _ (List.mem_append_left _ (List.mem_map.2 ⟨z,hz,rfl⟩))))
        ·obtain rfl:=List.mem_singleton.1 hz;exact .tail _ (.head _)
       ·exact .tail _ (.tail _ (.tail _ (List.mem_append_right _ hφ)))⟩,rfl⟩
  ·have h0:c'≠0:=by intro e;subst e;simp at h2
   have hany:(aA (L.take k)).any (fun z=>z.s==x.s)=true:=by
    rw [lV]
    cases h5:(L.take k).any fun z=>z.s==x.s with
    | true=>rfl
    | false=>exact absurd (hc'.symm.trans ((C0 _ _).2 h5)) h0
   have hft:aA (L.take (k+1))=aA (L.take k):=by rw [hft];unfold Zv;rw [if_pos hany]
   have hms:bL g (fc (L.take (k+1)))=bL g (cw S x.s (.int .i64 ((c':Int)+1))):=by rw [hsm]
   conv=>arg 5;whnf
   refine ai ⟨by show -9223372036854775808≤(k:Int)+1;omega,by show (k:Int)+1≤9223372036854775807;omega⟩ ?_
   refine aO ⟨(k+1,Q,va),⟨hlt,by show Q.map GW=(aA (L.take (k+1))).map xj;rw [hq,hft],hfit,hfr,hV,hva⟩,⟨by repeat' first | exact trivial | refine ⟨.inl rfl,?_⟩ | refine ⟨.inr rfl,?_⟩,⟨by repeat' first | exact trivial | refine ⟨.inl rfl,?_⟩ | refine ⟨.inr rfl,?_⟩,by repeat' first | exact trivial | refine ⟨.inl rfl,?_⟩ | refine ⟨.inr rfl,?_⟩,fun φ hφ=>by
    rcases List.mem_cons.1 hφ with rfl | hφ
    ·rw [hms];exact .head _
    ·exact .tail _ hφ⟩,rfl⟩,by show n - (k+1)<n - k;omega⟩
 ·have hkn:k=n:=by have h3:=of_decide_eq_false (show decide ((k:Int)<(n:Int))=false from h1);omega
  rw [List.take_of_length_le (by omega)] at hq
  conv=>arg 5;whnf
  refine av fun β ρ w' hM'=>?_
  have hO:=iP hM' (v:=va) (e:=225) (size:=2) (n:=Q.length) (xs:=bw Q) (.tail _ (.head _)) hV (nk _)
  obtain ⟨a2,c2,hv2,hs2,hb2,hat2⟩:=oO hO
  refine ⟨(a2,c2),Q,hq,hfit,hs2,by rw [← hv2];rfl,hM'.below,fun φ hφ g' hg'=>?_⟩
  rcases List.mem_cons.1 hφ with rfl | hφ
  ·exact DX hb2 hat2 g' hg'
  ·exact ⟨(hfr φ hφ g' hg').1,(hM'.fact φ (.tail _ (.tail _ (List.mem_append_left _ hφ))) g' hg').2⟩
end Go.Proofs.YtdbjakibneeeiaaGreatDoor.aL
namespace Go.Proofs.YtdbjakibneeeiaaGreatDoor.aL
open Go.RowKit Sx txn queue
def Qv (q:Option (Nat×Tx)) (i:Nat) (r:List Tx):Option (Nat×Tx):=match r with
 | []=>q
 | t::_=>match q with
  | none=>some (i,t)
  | some u=>if cV t u.2 then some (i,t) else some u
def cT (left:List (List Tx)) (n:Nat):Option (Nat×Tx):=(List.range n).foldl (fun q i=>Qv q i (left.getD i [])) none
def jY (left:List (List Tx)) (n:Nat):cT left (n+1)=Qv (cT left n) n (left.getD n []):=by
 unfold cT
 rw [List.range_succ,List.foldl_append]
 rfl
def a11 {left:List (List Tx)} {n:Nat} {q:Nat×Tx} (h:cT left n=some q):q.1<n∧∃r,left.getD q.1 []=q.2::r:=by
 induction n generalizing q with
 | zero=>cases h
 | succ n ih=>
  rw [jY] at h
  unfold Qv at h
  split at h
  ·have:=ih h;exact ⟨by omega,this.2⟩
  ·rename_i t r hr
   split at h
   ·cases h;exact ⟨by omega,r,hr⟩
   ·rename_i u hu
    split at h
    ·cases h;exact ⟨by omega,r,hr⟩
    ·cases h;have:=ih hu;exact ⟨by omega,this.2⟩
def sV {left:List (List Tx)} {n:Nat}:cT left n=none↔∀i,i<n→left.getD i []=[]:=by
 induction n with
 | zero=>exact ⟨fun _ i hi=>by omega,fun _=>rfl⟩
 | succ n ih=>
  rw [jY]
  constructor
  ·intro h i hi
   unfold Qv at h
   split at h
   ·rename_i hr
    by_cases e:i=n
    ·subst e;exact hr
    ·exact ih.1 h i (by omega)
   ·split at h
    ·cases h
    ·split at h <;> cases h
  ·intro h
   rw [h n (by omega),ih.2 fun i hi=>h i (by omega)]
   rfl
def dG (left:List (List Tx)):Nat:=(left.map List.length).sum
def vR {left:List (List Tx)} {k:Nat} (hk:k<left.length) (r:List Tx):dG (left.set k r)+(left.getD k []).length=dG left+r.length:=by
 unfold dG
 induction left generalizing k with
 | nil=>simp at hk
 | cons x left ih=>
  cases k with
  | zero=>simp;omega
  | succ k=>have:=ih (k:=k) (by simpa using hk);simp at this ⊢;omega
def nH:Nat→List (List Tx)→Int→List Tx
 | 0,_,_=>[]
 | f+1,left,gas=>match cT left left.length with
  | none=>[]
  | some q=>if gas<q.2.g then nH f (left.set q.1 []) gas else q.2::nH f (left.set q.1 (left.getD q.1 []).tail) (gas - q.2.g)
def gH (left:List (List Tx)) (gas:Int):List Tx:=nH (dG left) left gas
def bE {left:List (List Tx)} {k:Nat} {t:Tx} {r:List Tx} (h:left.getD k []=t::r):k<left.length:=by
 by_cases hk:k<left.length
 ·exact hk
 ·rw [List.getD_eq_getElem?_getD,List.getElem?_eq_none (by omega)] at h;cases h
def lP {left:List (List Tx)} {k:Nat} {t:Tx} {r:List Tx} (h:left.getD k []=t::r):dG (left.set k [])<dG left:=by
 have:=vR (bE h) []
 rw [h] at this;simp at this;omega
def jw {left:List (List Tx)} {k:Nat} {t:Tx} {r:List Tx} (h:left.getD k []=t::r):dG (left.set k (left.getD k []).tail)<dG left:=by
 have:=vR (bE h) (left.getD k []).tail
 rw [h] at this ⊢;simp at this ⊢;omega
def wg:∀(f:Nat) (left:List (List Tx)) (gas:Int),dG left≤f→nH f left gas=nH (dG left) left gas:=by
 intro f
 induction f using Nat.strongRecOn with
 | _ f ih=>
  intro left gas hf
  cases hb:cT left left.length with
  | none=>
   have:∀g,nH g left gas=[]:=fun g=>by cases g with
    | zero=>rfl
    | succ g=>unfold nH;rw [hb]
   rw [this,this]
  | some q=>
   obtain ⟨_,r,hr⟩:=a11 hb
   have h1:=lP hr
   have h2:=jw hr
   obtain ⟨s,hs⟩:∃s,dG left=s+1:=⟨dG left - 1,by omega⟩
   obtain ⟨g,rfl⟩:∃g,f=g+1:=⟨f - 1,by omega⟩
   rw [hs]
   unfold nH
   rw [hb]
   simp only []
   split
   ·rw [ih g (by omega) _ _ (by omega)]
    by_cases e:s=g
    ·subst e;rw [ih s (by omega) _ _ (by omega)]
    ·rw [ih s (by omega) _ _ (by omega)]
   ·rw [ih g (by omega) _ _ (by omega)]
    by_cases e:s=g
    ·subst e;rw [ih s (by omega) _ _ (by omega)]
    ·rw [ih s (by omega) _ _ (by omega)]
def w8 {left:List (List Tx)} {gas:Int} (h:cT left left.length=none):gH left gas=[]:=by
 unfold gH
 cases dG left with
 | zero=>rfl
 | succ f=>unfold nH;rw [h]
def v7 {left:List (List Tx)} {gas:Int} {q:Nat×Tx} (h:cT left left.length=some q) :
  gH left gas=if gas<q.2.g then gH (left.set q.1 []) gas else q.2::gH (left.set q.1 (left.getD q.1 []).tail) (gas - q.2.g):=by
 obtain ⟨_,r,hr⟩:=a11 h
 have h1:=lP hr
 have h2:=jw hr
 unfold gH
 obtain ⟨s,hs⟩:∃s,dG left=s+1:=⟨dG left - 1,by omega⟩
 rw [hs]
 show (match cT left left.length with
  | none=>[]
  | some q=>if gas<q.2.g then nH s (left.set q.1 []) gas else q.2::nH s (left.set q.1 (left.getD q.1 []).tail) (gas - q.2.g))=_
 rw [h]
 simp only []
 rw [wg s (left.set q.1 []) gas (by omega),wg s (left.set q.1 (left.getD q.1 []).tail) _ (by omega)]
def rest (m:List (Int×Value)) (x:Ln):List Tx:=match Ab m x with | some p=>x.l.drop p | none=>[]
def leftOf (m:List (Int×Value)) (L:List Ln):List (List Tx):=L.map (rest m)
def jS {m:List (Int×Value)} {L:List Ln} {i:Nat} {x:Ln} (h:L[i]?=some x):(leftOf m L).getD i []=rest m x:=by
 unfold leftOf
 rw [List.getD_eq_getElem?_getD,List.getElem?_map,h]
 rfl
def wY (x:Ln):Prop:=x.n=x.l.length
def Il {m:List (Int×Value)} {L:List Ln} (hp:Ai m L) (hf:∀x∈L,wY x) (n:Nat) (hn:n≤L.length) :
  (cT (leftOf m L) n=none∧kH m (L.take n)=(lz,tz))∨∃i x p,cT (leftOf m L) n=some (i,nx x.l p)∧kH m (L.take n)=(x,nx x.l p)∧L[i]?=some x∧ez m x.s=some (.int .i64 (p:Int))∧p<x.n:=by
 induction n with
 | zero=>exact .inl ⟨rfl,rfl⟩
 | succ n ih=>
  obtain ⟨x,hx⟩:∃x,L[n]?=some x:=⟨_,List.getElem?_eq_getElem (by omega)⟩
  have hxm:=List.mem_of_getElem? hx
  rw [jY,sg hx,jS hx]
  cases hlk:ez m x.s with
  | none=>
   have e1:rest m x=[]:=by unfold rest Ab;rw [hlk]
   have e2:∀q,ni m q x=q:=fun q=>by unfold ni Ab;rw [hlk]
   rw [e1,e2]
   exact ih (by omega)
  | some v=>
   obtain ⟨p,rfl,hpn⟩:=hp x hxm v hlk
   have hpl:Ab m x=some p:=by unfold Ab;rw [hlk];rfl
   have hlen:p<x.l.length:=by have:=hf x hxm;unfold wY at this;omega
   have e1:rest m x=nx x.l p::x.l.drop (p+1):=by
    unfold rest
    rw [hpl]
    show x.l.drop p=_
    rw [List.drop_eq_getElem_cons hlen]
    have:=xJ hlen
    rw [List.getElem?_eq_getElem hlen] at this
    rw [Option.some.inj this]
   have e2:∀q,ni m q x=if q.1.n=0∨cV (nx x.l p) q.2=true then (x,nx x.l p) else q:=fun q=>by unfold ni;rw [hpl]
   rw [e1,e2]
   rcases ih (by omega) with ⟨h1,h2⟩ | ⟨i,y,r,h1,h2,h3,h4,h5⟩
   ·rw [h1,h2,if_pos (.inl rfl)]
    exact .inr ⟨n,x,p,rfl,rfl,hx,hlk,hpn⟩
   ·rw [h1,h2]
    have hy0:¬ y.n=0:=by omega
    by_cases hb:cV (nx x.l p) (nx y.l r)=true
    ·rw [if_pos (.inr hb)]
     refine .inr ⟨n,x,p,?_,rfl,hx,hlk,hpn⟩
     show (if cV (nx x.l p) (nx y.l r) then some (n,nx x.l p) else some (i,nx y.l r))=_
     rw [if_pos hb]
    ·rw [if_neg (by simp [hy0,hb])]
     refine .inr ⟨i,y,r,?_,rfl,h3,h4,h5⟩
     show (if cV (nx x.l p) (nx y.l r) then some (n,nx x.l p) else some (i,nx y.l r))=_
     rw [if_neg hb]
def Av {m:List (Int×Value)} {x:Ln} {p:Nat} (h:ez m x.s=some (.int .i64 (p:Int))):Ab m x=some p:=by unfold Ab;rw [h];rfl
def HR {m m':List (Int×Value)} {x:Ln} (h:ez m' x.s=ez m x.s):rest m' x=rest m x:=by unfold rest Ab;rw [h]
def nN {m m':List (Int×Value)} {L:List Ln} {i:Nat} {x:Ln} {r:List Tx} (hi:L[i]?=some x) (hnd:(L.map (·.s)).Nodup) (h:∀s,s≠x.s→ez m' s=ez m s) (hr:rest m' x=r):leftOf m' L=(leftOf m L).set i r:=by
 apply List.ext_getElem?
 intro j
 unfold leftOf
 rw [List.getElem?_map,List.getElem?_set,List.length_map,List.getElem?_map]
 have hil:=(List.getElem?_eq_some_iff.1 hi).1
 by_cases e:i=j
 ·subst e
  rw [if_pos rfl,if_pos hil,hi]
  exact congrArg some hr
 ·rw [if_neg e]
  cases hj:L[j]? with
  | none=>rfl
  | some y=>
   have hne:y.s≠x.s:=by
    intro es
    have h1:(L.map (·.s))[i]?=some x.s:=by rw [List.getElem?_map,hi];rfl
    have h2:(L.map (·.s))[j]?=some x.s:=by rw [List.getElem?_map,hj];exact congrArg some es
    have h3:=(List.getElem?_eq_some_iff.1 h1).1
    have h4:=(List.getElem?_eq_some_iff.1 h2).1
    have h5:=(List.getElem?_eq_some_iff.1 h1).2.trans (List.getElem?_eq_some_iff.1 h2).2.symm
    exact e ((List.getElem_inj hnd).1 h5)
   exact congrArg some (HR (h _ hne))
structure oI (m:List (Int×Value)) (L:List Ln):Prop where
 nd:o8 m
 pl:Ai m L
 ks:∀s,ez m s≠none→∃x∈L,x.s=s
def oI.zero {m:List (Int×Value)} {L:List Ln} (h:oI m L) (h0:m.length=0) (n:Nat):cT (leftOf m L) n=none:=by
 rw [sV]
 intro i _
 have h1:=vF.1 h0
 cases hx:L[i]? with
 | none=>unfold leftOf;rw [List.getD_eq_getElem?_getD,List.getElem?_map,hx];rfl
 | some x=>rw [jS hx];unfold rest Ab;rw [h1]
def oI.pos {m:List (Int×Value)} {L:List Ln} (h:oI m L) (hf:∀x∈L,wY x) (h0:m.length≠0) :
  ∃i x p,cT (leftOf m L) (leftOf m L).length=some (i,nx x.l p)∧kH m L=(x,nx x.l p)∧L[i]?=some x∧ez m x.s=some (.int .i64 (p:Int))∧p<x.n:=by
 have hll:(leftOf m L).length=L.length:=by unfold leftOf;simp
 rcases Il h.pl hf L.length (Nat.le_refl _) with ⟨h1,_⟩ | h1
 ·exfalso
  apply h0
  rw [vF]
  intro s
  cases hs:ez m s with
  | none=>rfl
  | some v=>
   obtain ⟨x,hx,rfl⟩:=h.ks s (by rw [hs];simp)
   obtain ⟨i,hi⟩:=List.getElem?_of_mem hx
   have h2:=sV.1 h1 i (List.getElem?_eq_some_iff.1 hi).1
   rw [jS hi] at h2
   obtain ⟨p,rfl,hpn⟩:=h.pl x hx v hs
   have hlen:=hf x hx
   unfold wY at hlen
   unfold rest at h2
   rw [Av hs] at h2
   have h3:(x.l.drop p).length=0:=by rw [show x.l.drop p=[] from h2];rfl
   rw [List.length_drop] at h3
   omega
 ·rw [hll]
  rw [List.take_length] at h1
  exact h1
def oI.gone {m:List (Int×Value)} {L:List Ln} (h:oI m L) (hnd:(L.map (·.s)).Nodup) {i:Nat} {x:Ln} (hi:L[i]?=some x):oI (ie m x.s) L∧leftOf (ie m x.s) L=(leftOf m L).set i []:=by
 refine ⟨⟨yM h.nd _,fun y hy v hv=>?_,fun s hs=>?_⟩,nN hi hnd (fun s hs=>?_) ?_⟩
 ·rw [iQ h.nd] at hv
  split at hv
  ·cases hv
  ·exact h.pl y hy v hv
 ·rw [iQ h.nd] at hs
  split at hs
  ·exact absurd rfl hs
  ·exact h.ks s hs
 ·rw [iQ h.nd,if_neg (fun e=>hs e.symm)]
 ·unfold rest Ab;rw [iQ h.nd,if_pos rfl]
def oI.on {m:List (Int×Value)} {L:List Ln} (h:oI m L) (hf:∀x∈L,wY x) (hnd:(L.map (·.s)).Nodup) {i p:Nat} {x:Ln} (hi:L[i]?=some x) (hp:ez m x.s=some (.int .i64 (p:Int))) (hpn:p<x.n) :
  oI (tR m x p) L∧leftOf (tR m x p) L=(leftOf m L).set i ((leftOf m L).getD i []).tail:=by
 have hxm:=List.mem_of_getElem? hi
 have hlen:=hf x hxm
 unfold wY at hlen
 have hr:rest m x=x.l.drop p:=by unfold rest;rw [Av hp]
 rw [jS hi,hr,List.tail_drop]
 have hsame:∀y∈L,y.s=x.s→y=x:=fun y hy e=>by
  obtain ⟨j,hj⟩:=List.getElem?_of_mem hy
  have h1:(L.map (·.s))[i]?=some x.s:=by rw [List.getElem?_map,hi];rfl
  have h2:(L.map (·.s))[j]?=some x.s:=by rw [List.getElem?_map,hj];exact congrArg some e
  have h5:=(List.getElem?_eq_some_iff.1 h1).2.trans (List.getElem?_eq_some_iff.1 h2).2.symm
  have h6:=(List.getElem_inj hnd).1 h5
  subst h6
  rw [hi] at hj
  exact (Option.some.inj hj).symm
 have P1:oI (cw m x.s (.int .i64 (p+1:Nat))) L→True:=fun _=>trivial
 unfold tR
 split
 ·rename_i he
  have hn1:=uj h.nd x.s (.int .i64 (p+1:Nat))
  refine ⟨⟨yM hn1 _,fun y hy v hv=>?_,fun s hs=>?_⟩,nN hi hnd (fun s hs=>?_) ?_⟩
  ·rw [iQ hn1] at hv
   split at hv
   ·cases hv
   ·rename_i hne
    rw [yd,if_neg hne] at hv
    exact h.pl y hy v hv
  ·rw [iQ hn1] at hs
   split at hs
   ·exact absurd rfl hs
   ·rename_i hne
    rw [yd,if_neg hne] at hs
    exact h.ks s hs
  ·rw [iQ hn1,if_neg (fun e=>hs e.symm),yd,if_neg (fun e=>hs e.symm)]
  ·unfold rest Ab
   rw [iQ hn1,if_pos rfl]
   show []=x.l.drop (p+1)
   rw [List.drop_eq_nil_of_le (by omega)]
 ·rename_i he
  refine ⟨⟨uj h.nd _ _,fun y hy v hv=>?_,fun s hs=>?_⟩,nN hi hnd (fun s hs=>?_) ?_⟩
  ·rw [yd] at hv
   split at hv
   ·rename_i hys
    have:=hsame y hy hys.symm
    subst this
    cases hv
    exact ⟨p+1,rfl,by omega⟩
   ·exact h.pl y hy v hv
  ·rw [yd] at hs
   split at hs
   ·rename_i e;exact ⟨x,hxm,e⟩
   ·exact h.ks s hs
  ·rw [yd,if_neg (fun e=>hs e.symm)]
  ·unfold rest Ab
   rw [yd,if_pos rfl]
   rfl
def Dy (L:List Ln) (k:Nat):o8 (jd (L.take k))∧(∀s,ez (jd (L.take k)) s=none∨ez (jd (L.take k)) s=some (.int .i64 0))∧(∀s,ez (jd (L.take k)) s≠none↔∃x∈L.take k,x.s=s∧0<x.n):=by
 induction k with
 | zero=>exact ⟨FD,fun _=>.inl rfl,fun s=>by simp [jd,BL]⟩
 | succ k ih=>
  cases hx:L[k]? with
  | none=>rw [List.take_add_one,hx];simpa using ih
  | some y=>
   rw [YP hx,List.take_add_one,hx]
   obtain ⟨h1,h2,h3⟩:=ih
   by_cases h0:0<y.n
   ·rw [if_pos h0]
    refine ⟨uj h1 _ _,fun s=>?_,fun s=>?_⟩
    ·rw [yd];split;exact .inr rfl;exact h2 s
    ·rw [yd]
     constructor
     ·intro h
      split at h
      ·rename_i e;exact ⟨y,by simp,e,h0⟩
      ·obtain ⟨x,hx1,hx2⟩:=(h3 s).1 h;exact ⟨x,List.mem_append_left _ hx1,hx2⟩
     ·rintro ⟨x,hx1,hx2,hx3⟩
      split
      ·simp
      ·rename_i hne
       rcases List.mem_append.1 hx1 with hx1 | hx1
       ·exact (h3 s).2 ⟨x,hx1,hx2,hx3⟩
       ·simp at hx1;subst hx1;exact absurd hx2 hne
   ·rw [if_neg h0]
    refine ⟨h1,h2,fun s=>(h3 s).trans ⟨fun ⟨x,hx1,hx2⟩=>⟨x,List.mem_append_left _ hx1,hx2⟩,fun ⟨x,hx1,hx2,hx3⟩=>?_⟩⟩
    rcases List.mem_append.1 hx1 with hx1 | hx1
    ·exact ⟨x,hx1,hx2,hx3⟩
    ·simp at hx1;subst hx1;exact absurd hx3 h0
def HJ {L:List Ln} (hf:∀x∈L,wY x) (hnd:(L.map (·.s)).Nodup):oI (jd L) L∧leftOf (jd L) L=L.map (·.l):=by
 obtain ⟨h1,h2,h3⟩:=Dy L L.length
 rw [List.take_length] at h1 h2 h3
 have hsame:∀x∈L,∀y∈L,y.s=x.s→y=x:=fun x hx y hy e=>by
  obtain ⟨i,hi⟩:=List.getElem?_of_mem hx
  obtain ⟨j,hj⟩:=List.getElem?_of_mem hy
  have h1:(L.map (·.s))[i]?=some x.s:=by rw [List.getElem?_map,hi];rfl
  have h2:(L.map (·.s))[j]?=some x.s:=by rw [List.getElem?_map,hj];exact congrArg some e
  have h5:=(List.getElem?_eq_some_iff.1 h1).2.trans (List.getElem?_eq_some_iff.1 h2).2.symm
  have h6:=(List.getElem_inj hnd).1 h5
  subst h6
  rw [hi] at hj
  exact (Option.some.inj hj).symm
 refine ⟨⟨h1,fun x hx v hv=>?_,fun s hs=>?_⟩,?_⟩
 ·rcases h2 x.s with h | h
  ·rw [h] at hv;cases hv
  ·rw [h] at hv;cases hv
   obtain ⟨y,hy,hys,hyn⟩:=(h3 x.s).1 (by rw [h];simp)
   have:=hsame x hx y hy hys
   subst this
   exact ⟨0,rfl,hyn⟩
 ·obtain ⟨y,hy,hys,_⟩:=(h3 s).1 hs
  exact ⟨y,hy,hys⟩
 ·unfold leftOf
  apply List.map_congr_left
  intro x hx
  unfold rest
  by_cases h0:0<x.n
  ·rcases h2 x.s with h | h
   ·exact absurd h ((h3 x.s).2 ⟨x,hx,rfl,h0⟩)
   ·rw [Av (p:=0) h];rfl
  ·have hnone:ez (jd L) x.s=none:=by
    cases h:ez (jd L) x.s with
    | none=>rfl
    | some v=>
     obtain ⟨y,hy,hys,hyn⟩:=(h3 x.s).1 (by rw [h];simp)
     have:=hsame x hx y hy hys
     subst this
     omega
   have hl:=hf x hx
   unfold wY at hl
   have:x.l=[]:=List.eq_nil_of_length_eq_zero (by omega)
   unfold Ab
   rw [hnone,this]
def DD {L:List Ac} (h:(L.map (·.s)).Nodup) (y:Ac):((Zv L y).map (·.s)).Nodup:=by
 unfold Zv
 split
 ·exact h
 ·rename_i hn
  rw [List.map_append,List.nodup_append]
  refine ⟨h,by simp,fun a ha b hb e=>?_⟩
  simp at hb
  subst hb
  subst e
  obtain ⟨x,hx,hxs⟩:=List.mem_map.1 ha
  exact hn (List.any_eq_true.2 ⟨x,hx,by simp [hxs]⟩)
def uU (L:List Ac):((aA L).map (·.s)).Nodup:=by
 unfold aA
 have:∀(l acc:List Ac),(acc.map (·.s)).Nodup→((l.foldl Zv acc).map (·.s)).Nodup:=by
  intro l
  induction l with
  | nil=>exact fun _ h=>h
  | cons x l ih=>exact fun acc h=>ih _ (DD h x)
 exact this L [] (by simp)
def YG (p:Tx→Bool):∀(l:List Tx) (k:Nat) (j:Nat),idx p l k=(j:Int)→∀t∈l.take (j - k),p t=false
 | [],k,j,h,t,ht=>by simp at ht
 | x::l,k,j,h,t,ht=>by
  unfold idx at h
  split at h
  ·have:j=k:=by omega
   subst this
   simp at ht
  ·rename_i hx
   have hjk:k+1≤j:=by
    rcases pR p l (k+1) with hr | ⟨j',h1,h2,_⟩
    ·rw [hr] at h;omega
    ·rw [h1] at h;omega
   have hd:j - k=(j - (k+1))+1:=by clear h ht;omega
   rw [hd,List.take_succ_cons] at ht
   rcases List.mem_cons.1 ht with rfl | ht
   ·simpa using hx
   ·exact YG p l (k+1) j h t ht
def lY (p:Tx→Bool):∀(l:List Tx) (k:Nat),idx p l k<0→∀t∈l,p t=false
 | [],k,h,t,ht=>by simp at ht
 | x::l,k,h,t,ht=>by
  unfold idx at h
  split at h
  ·omega
  ·rename_i hx
   rcases List.mem_cons.1 ht with rfl | ht
   ·simpa using hx
   ·exact lY p l (k+1) h t ht
def yl {b:Int} {l:List Tx}:∀t∈cj b l,t.ok=true:=by
 intro t ht
 unfold cj iC at ht
 have h:bad t=false:=by
  split at ht
  ·rename_i h;exact lY bad _ 0 h t ht
  ·rename_i h
   have h5:idx bad (bu b l) 0=((idx bad (bu b l) 0).toNat:Int):=by
    generalize idx bad (bu b l) 0=z at *;omega
   refine YG bad (bu b l) 0 (idx bad (bu b l) 0).toNat h5 t ?_
   simpa using ht
 unfold bad at h
 simpa using h
def aV (L:List Ac) (gas:Int):List Tx:=gH ((aA L).map fun x=>cj x.b x.l) gas
def Qc {Ls:List Ln} {L:List Ac} (h:Ls.map GW=L.map xj):Ls.map (·.l)=L.map (fun x=>cj x.b x.l)∧Ls.map (·.s)=L.map (·.s):=by
 have h1:=congrArg (List.map Prod.snd) h
 have h2:=congrArg (List.map Prod.fst) h
 rw [List.map_map,List.map_map] at h1 h2
 exact ⟨h1,h2⟩
def EP {t:Tx} (h:t.ok=true):1≤t.g∧t.g≤1073741824:=by
 unfold Tx.ok at h
 simp at h
 omega
end Go.Proofs.YtdbjakibneeeiaaGreatDoor.aL
namespace Go.Proofs.YtdbjakibneeeiaaGreatDoor.aL
open Go.RowKit Sx txn queue
def sH (x:Tx):ah [x]=bQ x:=by simp [ah]
section
variable {W : World} {G : Option Nat} {Q : Ending → World → Prop} {ds : List Deferred}
def Di {args:List Sx.T} {m:M} {k:Value→List Fact→Tree} {a:Option Addr} {n c:Nat} {L:List Ac} (hv:aH args=some [.slice a n c])
  (hC:∀β ρ w,Mem W G m β ρ w→bA w∧zB w a n c L) (h1000:n≤1000000)
  (h:∀b cb Ls,Ls.map GW=(aA L).map xj→(∀x∈Ls,Ln.fit x)→Sl b Ls.length cb→(∀φ∈ay (pt b Ls.length) (bw Ls)::Ls.map uJ,∀g,φ.g=some g→W.heap.size≤g)→(k (.slice b Ls.length cb) (ay (pt b Ls.length) (bw Ls)::Ls.map uJ)).aD Tryz.prog W G Q ds):(Tree.call 174 args m k).aD Tryz.prog W G Q ds:=
 rX (ι:=One×List Ln) (ok:=fun i=>i.2.map GW=(aA L).map xj∧(∀x∈i.2,Ln.fit x)∧Sl i.1.1 i.2.length i.1.2∧∀φ∈ay (pt i.1.1 i.2.length) (bw i.2)::i.2.map uJ,∀g,φ.g=some g→W.heap.size≤g) (v:=fun i=>.slice i.1.1 i.2.length i.1.2) (fs:=fun i=>ay (pt i.1.1 i.2.length) (bw i.2)::i.2.map uJ) (by kernel_rfl) (fun β ρ w vs hm hr=>by
  rw [aE _ _ _ hv hr]
  obtain ⟨h1,h2⟩:=hC β ρ w hm
  refine (lines L a n c w h1 h2 h1000).mono fun e w' ⟨i,Ls,h3,h4,h5,h6⟩=>⟨(i,Ls),⟨h3,h4,h5,fun φ hφ g hg=>Nat.le_trans hm.grown.size (h6.2.2 φ hφ g hg).1⟩,h6⟩) (fun i hi=>h i.1.1 i.1.2 i.2 hi.1 hi.2.1 hi.2.2.1 hi.2.2.2)
end
end Go.Proofs.YtdbjakibneeeiaaGreatDoor.aL
namespace Go.Proofs.YtdbjakibneeeiaaGreatDoor.aL
open Go.RowKit Sx txn queue
def xz:∀(f:Nat) (left:List (List Tx)) (gas:Int),(nH f left gas).length≤dG left
 | 0,_,_=>Nat.zero_le _
 | f+1,left,gas=>by
  unfold nH
  cases h:cT left left.length with
  | none=>exact Nat.zero_le _
  | some q=>
   obtain ⟨_,r,hr⟩:=a11 h
   have h1:=lP hr
   have h2:=jw hr
   simp only []
   split
   ·have:=xz f (left.set q.1 []) gas;omega
   ·have:=xz f (left.set q.1 (left.getD q.1 []).tail) (gas - q.2.g)
    rw [List.length_cons];omega
def GP (left:List (List Tx)) (gas:Int):(gH left gas).length≤dG left:=xz _ _ _
section
variable {W : World} {G : Option Nat} {Q : Ending → World → Prop} {ds : List Deferred}
def Ih {args:List Sx.T} {m:M} {k:Value→List Fact→Tree} {b:Option Addr} {cb:Nat} {Ls:List Ln} (hv:aH args=some [.slice b Ls.length cb]) (hs:Sl b Ls.length cb) (hm:ay (pt b Ls.length) (bw Ls)∈m.facts)
  (h:∀g,W.heap.size≤g→(∀φ∈m.facts,φ.g≠some g)→(k (.map (some g)) [bL g (jd Ls)]).aD Tryz.prog W G Q ds):(Tree.call 175 args m k).aD Tryz.prog W G Q ds:=
 rX (ι:=Nat) (ok:=fun g=>W.heap.size≤g∧∀φ∈m.facts,φ.g≠some g) (v:=fun g=>.map (some g)) (fs:=fun g=>[bL g (jd Ls)]) (by kernel_rfl) (fun β ρ w vs hM hr=>by
  rw [aE _ _ _ hv hr]
  refine (Ax Ls b Ls.length cb w hs rfl (hM.at_ hm)).mono fun e w' ⟨g,hg⟩=>⟨g,⟨?_,fun φ hφ hgφ=>?_⟩,hg⟩
  ·exact Nat.le_trans hM.grown.size (hg.2.2 _ (.head _) g rfl).1
  ·obtain ⟨o,ho,_⟩:=(hM.fact φ hφ g hgφ).2
   have h1:=(hg.2.2 _ (.head _) g rfl).1
   have h2:=(Array.getElem?_eq_some_iff.1 ho).1
   omega) (fun g hi=>h g hi.1 hi.2)
end
def template (L:List Ac) (gas:Int) (a:Option Addr) (n c:Nat) (w:World) (hM:bA w) (hA:zB w a n c L) (h1000:n≤1000000) (hG : -9223372036854775808≤gas∧gas≤9223372036854775807) (hT:(aV L gas).length≤1000000) :
  Calls Tryz.prog 145 (List.toArray [.slice a n c,.int .i64 gas]) w fun e w'=>∃i:One,Sl i.1 (aV L gas).length i.2∧dy w w' e (.slice i.1 (aV L gas).length i.2) [ay (pt i.1 (aV L gas).length) (ah (aV L gas))]:=by
 have hn:=hA.2.1
 refine au (aq.keeps.open_ [177] false) Tryz.func145 rfl [] (aQ _ _ (by kernel_rfl)) (dm a n L) hA.facts ?_
 conv=>arg 5;whnf
 refine Di rfl (fun β ρ w' hM'=>⟨hM.later hM'.below,Mem.RI hA hM' fun φ hφ=>hφ⟩) h1000 (fun b cb Ls hL hfit hsl hfr=>?_)
 conv=>arg 5;whnf
 refine Ih rfl hsl (.head _) (fun g hg hgap=>?_)
 obtain ⟨hl1,hl2⟩:=Qc hL
 have hnd:(Ls.map (·.s)).Nodup:=by rw [hl2];exact uU L
 have hfn:∀x∈Ls,wY x:=fun x hx=>(hfit x hx).2.1
 have hok:∀x∈Ls,∀t∈x.l,t.ok=true:=fun x hx t ht=>by
  have h1:x.l∈Ls.map (·.l):=List.mem_map.2 ⟨x,hx,rfl⟩
  rw [hl1] at h1
  obtain ⟨y,_,hy⟩:=List.mem_map.1 h1
  rw [← hy] at ht
  exact yl t ht
 obtain ⟨hp0,hb0⟩:=HJ hfn hnd
 have hT0:aV L gas=gH (leftOf (jd Ls) Ls) gas:=by unfold aV;rw [hb0,hl1]
 have hgap:∀φ∈ay (pt b Ls.length) (bw Ls)::(Ls.map uJ++dm a n L),φ.g≠some g:=hgap
 conv=>arg 5;whnf
 refine gf 7 26 6 rfl ?_
 refine eV (aq.keeps.open_ [177] false) [] (aQ _ _ (by kernel_rfl)) [0,0,0] (fun q:List (Int×Value)×Int×List Tx=>oI q.1 Ls∧q.2.2++gH (leftOf q.1 Ls) q.2.1=aV L gas∧q.2.1≤gas∧(q.2.1=gas∨0≤q.2.1)) (fun q=>(⟨[],[some ⟨26,6,q.2.2.length,ah q.2.2⟩],bL g q.1::ay (pt b Ls.length) (bw Ls)::(Ls.map uJ++dm a n L)⟩,[.any,.v (.int .i64 q.2.1),.any,.any,.any,.v (.slice b Ls.length cb),.v (.map (some g)),.r 0,.any,.any,.any,.any,.any,.any,.any,.any,.any,.any,.any,.any,.any,.any,.any,.any,.any,.any,.any,.any,.any,.any,.any,.any,.any,.any,.any,.any,.any,.any,.any,.any,.any,.any,.any,.any,.any,.any,.any])) (fun q=>dG (leftOf q.1 Ls)) (jd Ls,gas,[]) ⟨hp0,hT0.symm,Int.le_refl _,.inl rfl⟩ ⟨by repeat' first | exact trivial | refine ⟨.inl rfl,?_⟩ | refine ⟨.inr rfl,?_⟩,⟨by repeat' first | exact trivial | refine ⟨.inl rfl,?_⟩ | refine ⟨.inr rfl,?_⟩,by repeat' first | exact trivial | refine ⟨.inl rfl,?_⟩ | refine ⟨.inr rfl,?_⟩,fun _ h=>h⟩,rfl⟩ ?_
 rintro ⟨m,ga,out⟩ ⟨hP,hO,hga,hga0⟩
 have hP:oI m Ls:=hP
 have hO:out++gH (leftOf m Ls) ga=aV L gas:=hO
 have hga:ga≤gas:=hga
 have hga0:ga=gas∨0≤ga:=hga0
 conv=>arg 5;whnf
 refine FI Tryz.underlying222 (.head _) ?_
 conv=>arg 5;whnf
 refine bk (fun h1=>?_) (fun h1=>?_)
 ·have h0:m.length≠0:=by have h3:=of_decide_eq_true (show decide ((0:Int)<(m.length:Int))=true from h1);omega
  obtain ⟨i,x,p,hbi,hbv,hi,hlk,hpn⟩:=hP.pos hfn h0
  have hxm:=List.mem_of_getElem? hi
  obtain ⟨xs,xn,xd⟩:=hfit x hxm
  have hlen:p<x.l.length:=by omega
  have hmax:=xs.2.1
  have hxc:=xs.1
  have BV:=fun w hM hr hm hf=>NJ m g Ls b Ls.length cb w hM hsl rfl hr hm hf hP.pl
  rw [hbv] at BV
  have hz:=xJ hlen
  have htm:=Gf hlen
  have htd:=xd _ htm
  obtain ⟨hg1,hg2⟩:=EP (hok x hxm _ htm)
  have AD:=fun w hm=>advance m x p g w hm hlk hpn (by omega)
  obtain ⟨hPd,hld⟩:=hP.gone hnd hi
  obtain ⟨hPa,hla⟩:=hP.on hfn hnd hi hlk hpn
  have htp:=v7 (gas:=ga) hbi
  obtain ⟨_,r,hr⟩:=a11 hbi
  have hs1:=lP hr
  have hs2:=jw hr
  rw [← hla] at htp hs2
  rw [← hld] at htp hs1
  have hle:out.length<(aV L gas).length∨ga<(nx x.l p).g:=by
   by_cases h:ga<(nx x.l p).g
   ·exact .inr h
   ·rw [htp,if_neg h] at hO
    rw [← hO,List.length_append,List.length_cons];left;omega
  generalize nx x.l p=t at *
  conv=>arg 5;whnf
  refine iA (v:=.agg #[.int .i64 x.s,.slice x.a x.n x.c]) rfl (by kernel_rfl) (fun β ρ w' hM'=>BV w' (hM.later hM'.below) (hM'.at_ (.tail _ (.head _))) (hM'.fact _ (.head _) g rfl).2 (fun y hy=>⟨hfit y hy,hM'.at_ (.tail _ (.tail _ (List.mem_append_left _ (List.mem_map.2 ⟨y,hy,rfl⟩))))⟩)) ?_
  conv=>arg 5;whnf
  refine ct (z:=.int .i64 0) (l:=m) Tryz.underlying222 Tryz.underlying3 (fun w=>by kernel_rfl) (.head _) ?_
  rw [show (if false=true then Value.tuple #[(ez m x.s).getD (.int .i64 0),.bool (ez m x.s).isSome] else (ez m x.s).getD (.int .i64 0))=.int .i64 (p:Int) by rw [hlk];rfl]
  conv=>arg 5;whnf
  refine ai ⟨by omega,by show (p:Int)<(x.n:Int);omega,xs.some hpn⟩ ?_
  conv=>arg 5;whnf
  refine mV (l:=x.l) (k:=p) (x:=t) rfl (.tail _ (.tail _ (List.mem_append_left _ (List.mem_map.2 ⟨x,hxm,rfl⟩)))) hpn (xs.some hpn) hz rfl ?_
  conv=>arg 5;whnf
  refine bk (fun h2=>?_) (fun h2=>?_)
  ·have h3:ga<t.g:=of_decide_eq_true h2
   rw [if_pos h3] at htp
   conv=>arg 5;whnf
   refine vw (g:=g) (l:=m) (x:=x.s) (bL g (ie m x.s)::ay (pt b Ls.length) (bw Ls)::(Ls.map uJ++dm a n L)) rfl rfl rfl Tryz.underlying222 Tryz.underlying3 (.head _) (.inl hg) (fun ψ hψ=>(List.mem_cons.1 hψ).elim .inr fun hψ=>.inl ⟨.tail _ hψ,hgap ψ hψ⟩) ?_
   conv=>arg 5;whnf
   refine aO ⟨(ie m x.s,ga,out),⟨hPd,by show out++gH (leftOf (ie m x.s) Ls) ga=aV L gas;rw [← htp];exact hO,hga,hga0⟩,⟨by repeat' first | exact trivial | refine ⟨.inl rfl,?_⟩ | refine ⟨.inr rfl,?_⟩,⟨by repeat' first | exact trivial | refine ⟨.inl rfl,?_⟩ | refine ⟨.inr rfl,?_⟩,by repeat' first | exact trivial | refine ⟨.inl rfl,?_⟩ | refine ⟨.inr rfl,?_⟩,fun _ h=>h⟩,rfl⟩,hs1⟩
  ·have h3:¬ ga<t.g:=of_decide_eq_false h2
   rw [if_neg h3] at htp
   have hlt:out.length<(aV L gas).length:=hle.resolve_right h3
   have ec:ah (out++[t])=ah out++bQ t:=by rw [fX,sH]
   have el:(out++[t]).length=out.length+1:=by simp
   conv=>arg 5;whnf
   refine ai ⟨by show out.length+1≤maxLen;unfold maxLen;omega,by show (out.length+1)*56≤140737488355328;omega⟩ ?_
   conv=>arg 5;whnf
   refine ai ⟨by show -9223372036854775808≤ga - t.g;omega,by show ga - t.g≤9223372036854775807;omega⟩ ?_
   conv=>arg 5;whnf
   refine I4 (g:=g) (φ:=bL g m) rfl rfl (by kernel_rfl) (.head _) rfl (.inl hg) (fun F h=>by cases h) (fun β ρ w' hM'=>(AD w' (hM'.fact _ (.head _) g rfl).2).mono fun e w2 ⟨he,hgr,hb2⟩=>⟨_,bL g (tR m x p)::ay (pt b Ls.length) (bw Ls)::(Ls.map uJ++dm a n L),he,hgr,(fun ψ hψ=>(List.mem_cons.1 hψ).elim (fun e=>by subst e;exact .inr ⟨rfl,hb2⟩) fun hψ=>.inl ⟨.tail _ hψ,hgap ψ hψ⟩),?_⟩)
   conv=>arg 5;whnf
   refine aO ⟨(tR m x p,ga - t.g,out++[t]),⟨hPa,by show (out++[t])++gH (leftOf (tR m x p) Ls) (ga - t.g)=aV L gas;rw [List.append_assoc,← hO,htp];rfl,by show ga - t.g≤gas;omega,.inr (by show 0≤ga - t.g;omega)⟩,⟨by repeat' first | exact trivial | refine ⟨.inl rfl,?_⟩ | refine ⟨.inr rfl,?_⟩,⟨by repeat' first | exact trivial | refine ⟨.inl rfl,?_⟩ | refine ⟨.inr rfl,?_⟩,by rw [ec,el];repeat' first | exact trivial | refine ⟨.inl rfl,?_⟩ | refine ⟨.inr rfl,?_⟩,fun _ h=>h⟩,rfl⟩,hs2⟩
 ·have h0:m.length=0:=by have h3:=of_decide_eq_false (show decide ((0:Int)<(m.length:Int))=false from h1);omega
  rw [w8 (hP.zero h0 _),List.append_nil] at hO
  subst hO
  conv=>arg 5;whnf
  refine bV fun u c_u h_u f_u=>?_
  conv=>arg 5;whnf
  refine av fun β ρ w' hM'=>?_
  refine ⟨(u,c_u),h_u,rfl,hM'.below,fun φ hφ=>?_⟩
  simp only [List.mem_singleton] at hφ
  subst hφ
  exact lU _ hM' (.head _) f_u
end Go.Proofs.YtdbjakibneeeiaaGreatDoor.aL
namespace Go.Proofs.YtdbjakibneeeiaaGreatDoor.aL
open Go.RowKit Sx txn queue
def j7 (L:List Ac) (x:Ac):aF (L++[x])=aF L++x.cs:=by simp [aF]
end Go.Proofs.YtdbjakibneeeiaaGreatDoor.aL
namespace Go.Proofs.YtdbjakibneeeiaaGreatDoor.aL
open Go.RowKit Sx txn queue
structure Rs where
 a:Option Addr
 n:Nat
 c:Nat
 l:List Tx
def Rs.val (x:Rs):Value:=.slice x.a x.n x.c
def Rs.fit (x:Rs):Prop:=Sl x.a x.n x.c∧x.n=x.l.length∧∀t∈x.l,t.d.size≤maxLen
end Go.Proofs.YtdbjakibneeeiaaGreatDoor.aL
namespace Go.Proofs.YtdbjakibneeeiaaGreatDoor.aL
open Go.RowKit Sx txn queue
def kj (a:Option Addr) (n c j:Nat) (w:World) (h:j≤n) (hc:n≤c):(do pure (Next.value (← Instr.sliceAt 27 (.slice a n c) (some (.int .i64 j)) none none)):Sem Next).run Tryz.prog w=.ok (.value (.slice (if c=j then a else a.map fun x=>x.add (j*6)) (n - j) (c - j))) w:=by
 have h2:(j:Int)≤n:=by omega
 have h3:(n:Int)≤c:=by omega
 by_cases h4:c=j
 ·have h5:(c:Int)=j:=by omega
  simp [Instr.sliceAt,Instr.slice,run_underlying Tryz.underlying27,Sem.run_bind,go_sem,h2,h3,h4,h5]
 ·simp [Instr.sliceAt,Instr.slice,run_underlying Tryz.underlying27,Sem.run_bind,go_sem,h2,h3,h4]
def jW (l:List Tx) (j:Nat):ah (l.drop j)=(ah l).drop (j*6):=by
 induction l generalizing j with
 | nil=>simp [ah]
 | cons x l ih=>
  cases j with
  | zero=>simp [ah]
  | succ j=>
   have:=ih j
   simp only [ah] at this
   simp only [ah,List.drop_succ_cons,List.flatMap_cons]
   rw [this,show (j+1)*6=(bQ x).length+j*6 from by simp [bQ];omega,List.drop_length_add_append]
def wN {w:World} {a:Option Addr} {n c:Nat} {l:List Tx} (h:At w (pt a n) (ah l)) (j:Nat) (hj:j≤n) (hc:n≤c):At w (pt (if c=j then a else a.map fun x=>x.add (j*6)) (n - j)) (ah (l.drop j)):=by
 by_cases h0:n - j=0
 ·rw [show pt _ (n - j)=none from if_pos h0]
  intro g hg
  cases hg
 ·rw [show pt a n=a from if_neg (by omega)] at h
  rw [show pt _ (n - j)=_ from if_neg h0,if_neg (by omega),jW]
  exact C8 h _
def Part (x0 x:Rs):Prop:=x.fit∧∀w:World,At w (pt x0.a x0.n) (ah x0.l)→At w (pt x.a x.n) (ah x.l)
def Rs.no:Rs:=⟨none,0,0,[]⟩
def Rs.on (x:Rs):Rs:=⟨if x.c=1 then x.a else x.a.map fun z=>z.add (1*6),x.n - 1,x.c - 1,x.l.drop 1⟩
def Part.next {x0 x:Rs} (h:Part x0 x) (h0:0<x.n):Part x0 x.on:=by
 obtain ⟨⟨⟨h1,h2,h3⟩,hn,hd⟩,hA⟩:=h
 refine ⟨⟨⟨by show x.n - 1≤x.c - 1;omega,by show x.c - 1≤maxLen;omega,fun ha=>?_⟩,by show x.n - 1=(x.l.drop 1).length;rw [List.length_drop];omega,fun t ht=>hd t (List.mem_of_mem_drop ht)⟩,fun w hw=>wN (hA w hw) 1 (by omega) h1⟩
 exfalso
 have ha:(if x.c=1 then x.a else x.a.map fun z=>z.add (1*6))=none:=ha
 have hs:x.a≠none:=fun e=>by have:=(h3 e).1;omega
 split at ha
 ·exact hs ha
 ·cases hx:x.a with
  | none=>exact hs hx
  | some ad=>rw [hx] at ha;cases ha
structure nc (R0 R:List Rs):Prop where
 len:R.length=R0.length
 part:∀(i:Nat) (x0 x:Rs),R0[i]?=some x0→R[i]?=some x→Part x0 x
 gas:∀x∈R,∀t∈x.l,1≤t.g
def nc.set {R0 R:List Rs} (h:nc R0 R) {i:Nat} {y:Rs} (hy:∀x0,R0[i]?=some x0→Part x0 y) (hg:∀t∈y.l,1≤t.g):nc R0 (R.set i y):=by
 refine ⟨by rw [List.length_set];exact h.len,fun j x0 x h0 hx=>?_,fun x hx t ht=>?_⟩
 ·rw [List.getElem?_set] at hx
  split at hx
  ·rename_i e;subst e
   split at hx
   ·cases hx;exact hy x0 h0
   ·cases hx
  ·exact h.part j x0 x h0 hx
 ·rcases List.mem_or_eq_of_mem_set hx with hx | rfl
  ·exact h.gas x hx t ht
  ·exact hg t ht
def nc.fit {R0 R:List Rs} (h:nc R0 R) {w:World} (hat:∀x∈R0,At w (pt x.a x.n) (ah x.l)):∀x∈R,x.fit∧At w (pt x.a x.n) (ah x.l):=by
 intro x hx
 obtain ⟨i,hi⟩:=List.getElem?_of_mem hx
 have hil:=(List.getElem?_eq_some_iff.1 hi).1
 obtain ⟨x0,h0⟩:∃x0,R0[i]?=some x0:=⟨_,List.getElem?_eq_getElem (by rw [← h.len];exact hil)⟩
 have hp:=h.part i x0 x h0 hi
 exact ⟨hp.1,hp.2 w (hat x0 (List.mem_of_getElem? h0))⟩
end Go.Proofs.YtdbjakibneeeiaaGreatDoor.aL
namespace Go.Proofs.YtdbjakibneeeiaaGreatDoor.aL
open Go.RowKit Sx txn queue
def Ng (a b:Tx):Bool:=decide (a.s=b.s)&&decide (a.n=b.n)&&decide (a.t=b.t)&&decide (a.c=b.c)&&decide (a.g=b.g)&&decide (a.d.toList=b.d.toList)
def J2:List Tx→List Tx→Bool
 | [],[]=>true
 | x::l,y::r=>Ng x y&&J2 l r
 | _,_=>false
def pre (m r:List Tx):Bool:=decide (m.length≤r.length)&&J2 m (r.take m.length)
end Go.Proofs.YtdbjakibneeeiaaGreatDoor.aL
namespace Go.Proofs.YtdbjakibneeeiaaGreatDoor.aL
open Go.RowKit Sx txn queue
def FW (b:Int) (l:List Tx):(cj b l).length≤l.length:=by
 unfold cj iC bu
 split <;> simp [List.length_take] <;> omega
end Go.Proofs.YtdbjakibneeeiaaGreatDoor.aL
