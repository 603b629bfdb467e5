/- Layer 12 (greedy), by contract: the line of an account. -/
import Derived.Test.YtdbjakibneeeiaaGreatDoorKG21QueueT
import Derived.Test.YtdbjakibneeeiaaGreatDoorKG31Ord
import Derived.Test.YtdbjakibneeeiaaGreatDoorKG3SxB
import Derived.Test.YtdbjakibneeeiaaGreatDoorKG20SxA
import Derived.Test.YtdbjakibneeeiaaGreatDoorKG32PotFlt
import Derived.Test.YtdbjakibneeeiaaGreatDoorKG18QueueOpen
set_option linter.all false
set_option maxHeartbeats 4000000
set_option maxRecDepth 100000
namespace Go.Proofs.YtdbjakibneeeiaaGreatDoor.greedy
open Go.RowKit Sx txn queue
section
variable {P : Program} {W : World} {G : Option Nat} {Q : Ending → World → Prop} {ds : List Deferred}
theorem meet1F {f:FuncId} {args:List Sx.T} {l:List Value} {m:M} {k:Value→List Fact→Tree} {n:Nat} {v:Option Addr→Nat→Value} {xs:List Value} (hv:valsOf args=some l) (hc:callable P f=true)
  (hC:∀β ρ w,Mem W G m β ρ w→Calls P f (List.toArray l) w fun e w'=>∃i:One,Sl i.1 n i.2∧Gives w w' e (v i.1 i.2) [rowF (pt i.1 n) xs]) (h:∀a c,Sl a n c→(∀g,(rowF (pt a n) xs).g=some g→W.heap.size≤g)→(k (v a c) [rowF (pt a n) xs]).wpD P W G Q ds):(Tree.call f args m k).wpD P W G Q ds:=
 meetR (ι:=One) (ok:=fun i=>Sl i.1 n i.2∧∀g,(rowF (pt i.1 n) xs).g=some g→W.heap.size≤g) (v:=fun i=>v i.1 i.2) (fs:=fun i=>[rowF (pt i.1 n) xs]) hc (fun β ρ w vs hm hr=>by
  rw [valsOf_spec _ _ _ hv hr]
  refine (hC β ρ w hm).mono fun e w' ⟨i,hi,hg⟩=>⟨i,⟨hi,fun g hgg=>Nat.le_trans hm.grown.size (hg.2.2 _ List.mem_cons_self g hgg).1⟩,hg⟩) (fun i hi=>h i.1 i.2 hi.1 hi.2)
end
theorem idx_range (p:Tx→Bool):∀(l:List Tx) (k:Nat),idx p l k = -1∨∃j:Nat,idx p l k=j∧k≤j∧j<k+l.length
 | [],k=>.inl rfl
 | x::l,k=>by
  unfold idx
  split
  ·exact .inr ⟨k,rfl,Nat.le_refl _,by simp⟩
  ·rcases idx_range p l (k+1) with h | ⟨j,h1,h2,h3⟩
   ·exact .inl h
   ·exact .inr ⟨j,h1,by omega,by simp;omega⟩
def bad (x:Tx):Bool:=!x.ok
def lineR (r:List Tx):List Tx:=if idx bad r 0<0 then r else r.take (idx bad r 0).toNat
def lineV (b:Int) (l:List Tx):List Tx:=lineR (readyV b l)
theorem lineOf1 (x:Tx) (w:World) (hM:Most w):Calls Tryz.prog 225 (List.toArray [x.val]) w fun e w'=>e=.returned (.bool (bad x))∧Below w.heap.size w w':=by
 have CK:=fun w hM=>check x w hM
 refine calls_of_exec env_ok Tryz.func225 rfl [] (by kernel_rfl) [] (by simp) ?_
 conv=>arg 5;whnf
 refine meetc (v:=.bool x.ok) rfl (by kernel_rfl) (fun β ρ w' hM'=>CK w' (hM.later hM'.below)) ?_
 conv=>arg 5;whnf
 exact wp_back fun β ρ w' hM'=>⟨rfl,hM'.below⟩
theorem lineOf (s b:Int) (l:List Tx) (a:Option Addr) (n c:Nat) (w:World) (hM:Most w) (hs:Sl a n c) (hn:n=l.length) (hrow:At w (pt a n) (cellsL l)) (hl:l.length≤1000000) :
  Calls Tryz.prog 210 (List.toArray [acc s b a n c]) w fun e w'=>∃i:One,Sl i.1 (lineV b l).length i.2∧Gives w w' e (.slice i.1 (lineV b l).length i.2) [rowF (pt i.1 (lineV b l).length) (cellsL (lineV b l))]:=by
 have RD:=fun w hr=>ready s b l a n c w hs hn hr hl
 have hlv:lineV b l=lineR (readyV b l):=rfl
 rw [hlv]
 clear hlv
 generalize readyV b l=r at *
 have IR:=idx_range bad r 0
 have IFN:=fun q c_q w hM (hs:Sl q r.length c_q) hr=>indexFunc r q r.length c_q 225 [] bad w hs rfl hr (by kernel_rfl) fun x w2 _ hb=>lineOf1 x w2 (Most.later hM hb)
 rcases IR with h | ⟨j,h,_,hj⟩
 ·have hlr:lineR r=r:=by unfold lineR;rw [h];rfl
  rw [h] at IFN
  rw [hlr]
  refine calls_of_exec env_ok Tryz.func210 rfl [] (by kernel_rfl) [rowF (pt a n) (cellsL l)] (at1 hrow) ?_
  conv=>arg 5;whnf
  refine meet1F (f:=224) (n:=r.length) (v:=fun a1 c1=>.slice a1 r.length c1) (xs:=cellsL r) rfl (by kernel_rfl) (fun β ρ w' hM'=>RD w' (hM'.at_ (.head _))) (fun q c_q h_q f_q=>?_)
  conv=>arg 5;whnf
  refine meetc (v:=.int .i64 (-1)) rfl (by kernel_rfl) (fun β ρ w' hM'=>IFN q c_q w' (hM.later hM'.below) h_q (hM'.at_ (.head _))) ?_
  conv=>arg 5;whnf
  refine wp_back fun β ρ w' hM'=>⟨(q,c_q),h_q,rfl,hM'.below,fun φ hφ g hg=>?_⟩
  simp only [List.mem_singleton] at hφ
  subst hφ
  exact ⟨f_q g hg,(hM'.fact _ (.head _) g hg).2⟩
 ·have hlr:lineR r=r.take j:=by
   unfold lineR
   rw [h,if_neg (by omega)]
   rfl
  have hlen:(r.take j).length=j:=by rw [List.length_take];omega
  rw [h] at IFN
  rw [hlr,hlen]
  refine calls_of_exec env_ok Tryz.func210 rfl [] (by kernel_rfl) [rowF (pt a n) (cellsL l)] (at1 hrow) ?_
  conv=>arg 5;whnf
  refine meet1F (f:=224) (n:=r.length) (v:=fun a1 c1=>.slice a1 r.length c1) (xs:=cellsL r) rfl (by kernel_rfl) (fun β ρ w' hM'=>RD w' (hM'.at_ (.head _))) (fun q c_q h_q f_q=>?_)
  conv=>arg 5;whnf
  refine meetc (v:=.int .i64 (j:Nat)) rfl (by kernel_rfl) (fun β ρ w' hM'=>IFN q c_q w' (hM.later hM'.below) h_q (hM'.at_ (.head _))) ?_
  conv=>arg 5;whnf
  have hq1:=h_q.1
  refine wp_prim (.slice q j c_q) (fun w=>slice_to q r.length c_q j w (by omega)) ?_
  conv=>arg 5;whnf
  refine wp_back fun β ρ w' hM'=>⟨(q,c_q),⟨by show j≤c_q;omega,h_q.2.1,fun hq=>⟨by have:=(h_q.2.2 hq).1;show j=0;omega,(h_q.2.2 hq).2⟩⟩,rfl,hM'.below,fun φ hφ g hg=>?_⟩
  simp only [List.mem_singleton] at hφ
  subst hφ
  have hA:=at_begin (hM'.at_ (.head _)) j (by omega)
  refine ⟨f_q g ?_,hA g hg⟩
  by_cases h0:j=0
  ·rw [show pt q j=none from if_pos h0] at hg;cases hg
  ·rw [show pt q j=q from if_neg h0] at hg
   rw [show pt q r.length=q from if_neg (by omega)]
   exact hg
end Go.Proofs.YtdbjakibneeeiaaGreatDoor.greedy
namespace Go.Proofs.YtdbjakibneeeiaaGreatDoor.greedy
open Go.RowKit Sx txn queue
structure Ln where
 s:Int
 a:Option Addr
 n:Nat
 c:Nat
 l:List Tx
def Ln.cs (x:Ln):List Value:=[.int .i64 x.s,.slice x.a x.n x.c]
def cellsN (L:List Ln):List Value:=L.flatMap Ln.cs
theorem cellsN_at {L:List Ln} {k:Nat} {x:Ln} (h:L[k]?=some x):∀(j:Nat) (u:Value),x.cs[j]?=some u→(cellsN L)[k*2+j]?=some u:=by
 induction L generalizing k with
 | nil=>simp at h
 | cons y L ih=>
  intro j u hu
  unfold cellsN
  rw [List.flatMap_cons]
  cases k with
  | zero=>
   simp at h;subst h
   have hj:j<y.cs.length:=(List.getElem?_eq_some_iff.1 hu).1
   rw [Nat.zero_mul,Nat.zero_add,List.getElem?_append_left hj];exact hu
  | succ k=>
   have:=ih (by simpa using h) j u hu
   rw [show (k+1)*2+j=y.cs.length+(k*2+j) from by show _=2+_;omega,List.getElem?_append_right (Nat.le_add_right _ _),Nat.add_sub_cancel_left]
   exact this
section
variable {W : World} {G : Option Nat} {Q : Ending → World → Prop} {ds : List Deferred}
theorem readS {ty:TypeId} {ad:Option Addr} {xs vs:List Value} {k sz n:Nat} {m:M} {K:Value→Tree} {a:Addr} (hty:lk env.agg ty=some (some sz)) (hl:vs.length=sz) (hm:rowF (pt ad n) xs∈m.facts) (hk:k<n) (ha:ad.isSome=true)
  (hx:∀(j:Nat) (u:Value),vs[j]?=some u→xs[k*sz+j]?=some u) (haddr:a=(ad.getD ⟨0,0,none⟩).add (k*sz)) (h:(K (.agg vs.toArray)).wpD Tryz.prog W G Q ds):(Tree.load ty a m K).wpD Tryz.prog W G Q ds:=by
 rw [pt_pos hk] at hm
 refine ⟨.agg vs.toArray,fun β ρ w hM=>?_,h⟩
 cases ad with
 | none=>cases ha
 | some ad=>
  have:=env_ok.aggN ty sz hty a w vs hl (fun j u hu=>by
   have hc:=(hM.at_ hm).cell (hx j u hu)
   rw [haddr]
   simp only [Option.getD_some]
   obtain ⟨b,o,sp⟩:=ad
   unfold Addr.add at hc ⊢
   by_cases h1:k*sz=0 <;> by_cases h2:j=0 <;> simp_all [Nat.add_assoc])
  rw [this]
end
def begM (L:List Ln):List (Int×Value):=L.foldl (fun m x=>if 0<x.n then putM m x.s (.int .i64 0) else m) []
theorem begM_take {L:List Ln} {k:Nat} {x:Ln} (h:L[k]?=some x):begM (L.take (k+1))=if 0<x.n then putM (begM (L.take k)) x.s (.int .i64 0) else begM (L.take k):=by
 unfold begM
 rw [List.take_add_one,h,List.foldl_append]
 rfl
theorem beginnings (L:List Ln) (a:Option Addr) (n c:Nat) (w:World) (hs:Sl a n c) (hn:n=L.length) (hrow:At w (pt a n) (cellsN L)) :
  Calls Tryz.prog 175 (List.toArray [.slice a n c]) w fun e w'=>∃g:Nat,Gives w w' e (.map (some g)) [mapF g (begM L)]:=by
 have hn63:=hs.le
 have hbelow:∀g,w.heap.size≤g→(rowF (pt a n) (cellsN L)).g=some g→False:=fun g hg e=>by
  obtain ⟨o,ho,_⟩:=hrow g e
  have:=(Array.getElem?_eq_some_iff.1 ho).1
  omega
 refine calls_of_exec env_ok Tryz.func175 rfl [] (by kernel_rfl) [rowF (pt a n) (cellsN L)] (at1 hrow) ?_
 conv=>arg 5;whnf
 refine op_makeMap rfl (fun g hg=>?_)
 conv=>arg 5;whnf
 refine loop_rule env_ok [] (by kernel_rfl) (fun k:Nat=>k≤n) (fun k=>(⟨[],[],[mapF g (begM (L.take k)),rowF (pt a n) (cellsN L)]⟩,[.v (.slice a n c),.any,.any,.v (.map (some g)),.any,.any,.any,.v (.slice a n c),.v (.int .i64 n),.v (.int .i64 k),.any,.any,.any,.any,.any,.any,.any,.any,.any,.any,.any,.any])) (fun k=>n - k) 0 (Nat.zero_le _) ⟨by repeat' first | exact trivial | refine ⟨.inl rfl,?_⟩ | refine ⟨.inr rfl,?_⟩,⟨by repeat' first | exact trivial | refine ⟨.inl rfl,?_⟩ | refine ⟨.inr rfl,?_⟩,by repeat' first | exact trivial | refine ⟨.inl rfl,?_⟩ | refine ⟨.inr rfl,?_⟩,fun _ h=>h⟩,rfl⟩ ?_
 intro k hk
 conv=>arg 5;whnf
 refine wp_br (fun h1=>?_) (fun h1=>?_)
 ·have hlt:k<n:=by simp at h1;omega
  obtain ⟨x,hx⟩:∃x,L[k]?=some x:=⟨_,List.getElem?_eq_getElem (by omega)⟩
  have hbm:=begM_take hx
  conv=>arg 5;whnf
  refine wp_must ⟨by omega,by omega,hs.some hlt⟩ ?_
  conv=>arg 5;whnf
  refine readS (vs:=x.cs) (sz:=2) (k:=k) rfl rfl (.tail _ (.head _)) hlt (hs.some hlt) (cellsN_at hx) rfl ?_
  conv=>arg 5;whnf
  refine wp_br (fun h2=>?_) (fun h2=>?_)
  ·rw [if_pos (by simp at h2;omega)] at hbm
   conv=>arg 5;whnf
   refine op_mapUpdate (g:=g) (l:=begM (L.take k)) (x:=x.s) (v:=.int .i64 0) [mapF g (begM (L.take (k+1))),rowF (pt a n) (cellsN L)] rfl rfl rfl rfl Tryz.underlying222 Tryz.underlying3 (.head _) (.inl hg) (fun ψ hψ=>?_) ?_
   ·rcases List.mem_cons.1 hψ with rfl | hψ
    ·exact .inr (by rw [hbm])
    ·rcases List.mem_cons.1 hψ with rfl | hψ
     ·exact .inl ⟨.tail _ (.head _),fun e=>hbelow g hg e⟩
     ·cases hψ
   conv=>arg 5;whnf
   refine wp_must ⟨by omega,by omega⟩ ?_
   conv=>arg 5;whnf
   refine wp_end ⟨k+1,hlt,⟨by repeat' first | exact trivial | refine ⟨.inl rfl,?_⟩ | refine ⟨.inr rfl,?_⟩,⟨by repeat' first | exact trivial | refine ⟨.inl rfl,?_⟩ | refine ⟨.inr rfl,?_⟩,by repeat' first | exact trivial | refine ⟨.inl rfl,?_⟩ | refine ⟨.inr rfl,?_⟩,fun _ h=>h⟩,rfl⟩,by show n - (k+1)<n - k;omega⟩
  ·rw [if_neg (by simp at h2;omega)] at hbm
   conv=>arg 5;whnf
   refine wp_must ⟨by omega,by omega⟩ ?_
   rw [← hbm]
   conv=>arg 5;whnf
   refine wp_end ⟨k+1,hlt,⟨by repeat' first | exact trivial | refine ⟨.inl rfl,?_⟩ | refine ⟨.inr rfl,?_⟩,⟨by repeat' first | exact trivial | refine ⟨.inl rfl,?_⟩ | refine ⟨.inr rfl,?_⟩,by repeat' first | exact trivial | refine ⟨.inl rfl,?_⟩ | refine ⟨.inr rfl,?_⟩,fun _ h=>h⟩,rfl⟩,by show n - (k+1)<n - k;omega⟩
 ·have hkn:k=n:=by simp at h1;omega
  subst hkn
  conv=>arg 5;whnf
  refine wp_back fun β ρ w' hM'=>⟨g,rfl,hM'.below,fun φ hφ g' hg'=>?_⟩
  simp only [List.mem_singleton] at hφ
  subst hφ
  cases hg'
  refine ⟨hg,?_⟩
  have:=(hM'.fact _ (.head _) g rfl).2
  rw [List.take_of_length_le (by omega)] at this
  exact this
end Go.Proofs.YtdbjakibneeeiaaGreatDoor.greedy
namespace Go.Proofs.YtdbjakibneeeiaaGreatDoor.greedy
open Go.RowKit Sx txn queue
def advM (m:List (Int×Value)) (x:Ln) (p:Nat):List (Int×Value):=if p+1=x.n then delM (putM m x.s (.int .i64 (p+1:Nat))) x.s else putM m x.s (.int .i64 (p+1:Nat))
theorem advance (m:List (Int×Value)) (x:Ln) (p g:Nat) (w:World) (hm:∃o,w.heap[g]?=some o∧(mapF g m).holds o) (hp:lkM m x.s=some (.int .i64 p)) (hpn:p<x.n) (hxn:x.n≤maxLen) :
  Calls Tryz.prog 177 (List.toArray [.map (some g),.agg #[.int .i64 x.s,.slice x.a x.n x.c]]) w fun e w'=>e=.returned (.tuple #[])∧w.grownBy w' (some g)∧∃o,w'.heap[g]?=some o∧(mapF g (advM m x p)).holds o:=by
 have hmx:maxLen≤9223372036854775807:=by unfold maxLen;omega
 have hl1:=lkM_put m x.s x.s (.int .i64 (p+1:Nat))
 rw [if_pos rfl] at hl1
 refine calls_of_turn env_ok Tryz.func177 rfl [] (by kernel_rfl) (some g) [mapF g m] (fun φ hφ g' hg'=>by simp only [List.mem_singleton] at hφ;subst hφ;cases hg';exact hm) ?_
 conv=>arg 5;whnf
 refine peek_lookup (z:=.int .i64 0) (l:=m) Tryz.underlying222 Tryz.underlying3 (fun w=>by kernel_rfl) (.head _) ?_
 rw [hp]
 conv=>arg 5;whnf
 refine wp_must ⟨by omega,by omega⟩ ?_
 rw [show (p:Int)+1=((p+1:Nat):Int) by omega]
 conv=>arg 5;whnf
 refine op_mapUpdate (g:=g) (l:=m) (x:=x.s) (v:=.int .i64 (p+1:Nat)) [mapF g (putM m x.s (.int .i64 (p+1:Nat)))] rfl rfl rfl rfl Tryz.underlying222 Tryz.underlying3 (.head _) (.inr rfl) (fun ψ hψ=>by simp only [List.mem_singleton] at hψ;exact .inr hψ) ?_
 conv=>arg 5;whnf
 refine peek_lookup (z:=.int .i64 0) (l:=putM m x.s (.int .i64 (p+1:Nat))) Tryz.underlying222 Tryz.underlying3 (fun w=>by kernel_rfl) (.head _) ?_
 rw [hl1]
 conv=>arg 5;whnf
 refine wp_br (fun h=>?_) (fun h=>?_)
 ·have ha:advM m x p=delM (putM m x.s (.int .i64 (p+1:Nat))) x.s:=by unfold advM;rw [if_pos (by simp at h;omega)]
  rw [ha]
  conv=>arg 5;whnf
  refine op_delete (g:=g) (l:=putM m x.s (.int .i64 (p+1:Nat))) (x:=x.s) [mapF g (delM (putM m x.s (.int .i64 (p+1:Nat))) x.s)] rfl rfl rfl Tryz.underlying222 Tryz.underlying3 (.head _) (.inr rfl) (fun ψ hψ=>by simp only [List.mem_singleton] at hψ;exact .inr hψ) ?_
  conv=>arg 5;whnf
  refine wp_back fun β ρ w' hM'=>⟨rfl,hM'.grown,?_⟩
  exact (hM'.fact _ (.head _) g rfl).2
 ·have ha:advM m x p=putM m x.s (.int .i64 (p+1:Nat)):=by unfold advM;rw [if_neg (by simp at h;omega)]
  rw [ha]
  conv=>arg 5;whnf
  refine wp_back fun β ρ w' hM'=>⟨rfl,hM'.grown,?_⟩
  exact (hM'.fact _ (.head _) g rfl).2
end Go.Proofs.YtdbjakibneeeiaaGreatDoor.greedy
namespace Go.Proofs.YtdbjakibneeeiaaGreatDoor.greedy
open Go.RowKit Sx txn queue
def tz:Tx:=⟨0,0,0,0,0,ByteArray.empty⟩
def lz:Ln:=⟨0,none,0,0,[]⟩
def nx (l:List Tx) (i:Nat):Tx:=l.getD i tz
theorem nx_get {l:List Tx} {i:Nat} (h:i<l.length):l[i]?=some (nx l i):=by
 unfold nx
 rw [List.getD_eq_getElem?_getD,List.getElem?_eq_getElem h]
 rfl
theorem nx_mem {l:List Tx} {i:Nat} (h:i<l.length):nx l i∈l:=List.mem_of_getElem? (nx_get h)
def plc (m:List (Int×Value)) (x:Ln):Option Nat:=match lkM m x.s with | some (.int .i64 p)=>some p.toNat | _=>none
def bestS (m:List (Int×Value)) (q:Ln×Tx) (x:Ln):Ln×Tx:=match plc m x with
 | some p=>if q.1.n=0∨betterV (nx x.l p) q.2=true then (x,nx x.l p) else q
 | none=>q
def bestV (m:List (Int×Value)) (L:List Ln):Ln×Tx:=L.foldl (bestS m) (lz,tz)
theorem bestV_take {m:List (Int×Value)} {L:List Ln} {k:Nat} {x:Ln} (h:L[k]?=some x):bestV m (L.take (k+1))=bestS m (bestV m (L.take k)) x:=by
 unfold bestV
 rw [List.take_add_one,h,List.foldl_append]
 rfl
def lnF (x:Ln):Fact:=rowF (pt x.a x.n) (cellsL x.l)
def Ln.fit (x:Ln):Prop:=Sl x.a x.n x.c∧x.n=x.l.length∧∀t∈x.l,t.d.size≤maxLen
def placed (m:List (Int×Value)) (L:List Ln):Prop:=∀x∈L,∀v,lkM m x.s=some v→∃p:Nat,v=.int .i64 p∧p<x.n
theorem best_ (m:List (Int×Value)) (g:Nat) (L:List Ln) (a:Option Addr) (n c:Nat) (w:World) (hM:Most w) (hs:Sl a n c) (hn:n=L.length) (hrow:At w (pt a n) (cellsN L)) (hm:∃o,w.heap[g]?=some o∧(mapF g m).holds o)
  (hf:∀x∈L,Ln.fit x∧At w (pt x.a x.n) (cellsL x.l)) (hp:placed m L) :
  Calls Tryz.prog 176 (List.toArray [.slice a n c,.map (some g)]) w fun e w'=>e=.returned (.agg #[.int .i64 (bestV m L).1.s,.slice (bestV m L).1.a (bestV m L).1.n (bestV m L).1.c])∧Below w.heap.size w w':=by
 have hn63:=hs.le
 refine calls_of_exec env_ok.keeps Tryz.func176 rfl [(8,(line [0,1,2,3,4,5,6,7,8,9,10,11,12],[])),(9,(line [0,1,2,3,4,5,6,7],[1,2]))] (schedQ_ok _ _ (by kernel_rfl)) (mapF g m::rowF (pt a n) (cellsN L)::L.map lnF) (fun φ hφ g' hg'=>?_) ?_
 ·rcases List.mem_cons.1 hφ with rfl | hφ
  ·cases hg';exact hm
  ·rcases List.mem_cons.1 hφ with rfl | hφ
   ·exact hrow g' hg'
   ·obtain ⟨x,hx,rfl⟩:=List.mem_map.1 hφ
    exact (hf x hx).2 g' hg'
 conv=>arg 5;whnf
 refine loop_rule env_ok.keeps [(8,(line [0,1,2,3,4,5,6,7,8,9,10,11,12],[])),(9,(line [0,1,2,3,4,5,6,7],[1,2]))] (schedQ_ok _ _ (by kernel_rfl)) (fun q:Nat×Ln×Tx=>q.1≤n∧q.2=bestV m (L.take q.1)∧q.2.2.d.size≤maxLen) (fun q=>(⟨[some ([.v (.int .i64 lz.s),.v (.slice lz.a lz.n lz.c)],225),some ([.v (.int .i64 q.2.1.s),.v (.slice q.2.1.a q.2.1.n q.2.1.c)],225),some ([.v (.int .i64 q.2.2.s),.v (.int .i64 q.2.2.n),.v (.int .i64 q.2.2.t),.v (.int .i64 q.2.2.c),.v (.int .i64 q.2.2.g),.v (.string q.2.2.d)],26)],[],mapF g m::rowF (pt a n) (cellsN L)::L.map lnF⟩,[.v (.slice a n c),.v (.map (some g)),.any,.any,.p 0 0,.p 1 0,.p 2 0,.any,.any,.any,.any,.v (.slice a n c),.v (.int .i64 n),.v (.int .i64 q.1),.any,.any,.any,.any,.any,.any,.any,.any,.any,.any,.any,.any,.any,.any,.any,.any,.any,.any,.any,.any,.any,.any,.any,.any,.any,.any,.any,.any,.any,.any,.any,.any,.any])) (fun q=>n - q.1) (0,lz,tz) ⟨Nat.zero_le _,rfl,by show ByteArray.empty.size≤maxLen;decide⟩ ⟨by repeat' first | exact trivial | refine ⟨.inl rfl,?_⟩ | refine ⟨.inr rfl,?_⟩,⟨by repeat' first | exact trivial | refine ⟨.inl rfl,?_⟩ | refine ⟨.inr rfl,?_⟩,by repeat' first | exact trivial | refine ⟨.inl rfl,?_⟩ | refine ⟨.inr rfl,?_⟩,fun _ h=>h⟩,rfl⟩ ?_
 rintro ⟨k,y,ty⟩ ⟨hk,hq,hty⟩
 have hk:k≤n:=hk
 have hq:(y,ty)=bestV m (L.take k):=hq
 have hty:ty.d.size≤maxLen:=hty
 conv=>arg 5;whnf
 refine wp_br (fun h1=>?_) (fun h1=>?_)
 ·have hlt:k<n:=by have h3:=of_decide_eq_true (show decide ((k:Int)<(n:Int))=true from h1);omega
  obtain ⟨x,hx⟩:∃x,L[k]?=some x:=⟨_,List.getElem?_eq_getElem (by omega)⟩
  have hxm:x∈L:=List.mem_of_getElem? hx
  have hbt:=bestV_take (m:=m) hx
  obtain ⟨⟨xs,xn,xd⟩,_⟩:=hf x hxm
  have hpx:=hp x hxm
  rw [← hq] at hbt
  have hfm:rowF (pt x.a x.n) (cellsL x.l)∈L.map lnF:=List.mem_map.2 ⟨x,hxm,rfl⟩
  conv=>arg 5;whnf
  refine wp_must ⟨by omega,by show (k:Int)<(n:Int);omega,hs.some hlt⟩ ?_
  conv=>arg 5;whnf
  refine readS (vs:=x.cs) (sz:=2) (k:=k) rfl rfl (.tail _ (.head _)) hlt (hs.some hlt) (cellsN_at hx) rfl ?_
  conv=>arg 5;whnf
  refine peek_lookup (z:=.int .i64 0) (l:=m) Tryz.underlying222 Tryz.underlying3 (fun w=>by kernel_rfl) (.head _) ?_
  cases hlk:lkM m x.s with
  | none=>
   have hb2:bestS m (y,ty) x=(y,ty):=by unfold bestS plc;rw [hlk]
   rw [hb2] at hbt
   conv=>arg 5;whnf
   refine wp_must ⟨by show -9223372036854775808≤(k:Int)+1;omega,by show (k:Int)+1≤9223372036854775807;omega⟩ ?_
   conv=>arg 5;whnf
   refine wp_end ⟨(k+1,y,ty),⟨hlt,hbt.symm,hty⟩,⟨by repeat' first | exact trivial | refine ⟨.inl rfl,?_⟩ | refine ⟨.inr rfl,?_⟩,⟨by repeat' first | exact trivial | refine ⟨.inl rfl,?_⟩ | refine ⟨.inr rfl,?_⟩,by repeat' first | exact trivial | refine ⟨.inl rfl,?_⟩ | refine ⟨.inr rfl,?_⟩,fun _ h=>h⟩,rfl⟩,by show n - (k+1)<n - k;omega⟩
  | some v=>
   obtain ⟨p,rfl,hpn⟩:=hpx v hlk
   have hb2:bestS m (y,ty) x=if y.n=0∨betterV (nx x.l p) ty=true then (x,nx x.l p) else (y,ty):=by unfold bestS plc;rw [hlk];rfl
   rw [hb2] at hbt
   have hz:=nx_get (l:=x.l) (i:=p) (by omega)
   have hdz:=xd _ (nx_mem (l:=x.l) (i:=p) (by omega))
   have BT:=fun w hM=>better (nx x.l p) ty w hM hdz hty
   generalize nx x.l p=z at *
   conv=>arg 5;whnf
   refine wp_g0 (fun h2=>?_) (fun h2=>?_)
   ·have hy0:¬ y.n=0:=by intro h;rw [h] at h2;simp at h2
    conv=>arg 5;whnf
    refine wp_must ⟨by omega,by show (p:Int)<(x.n:Int);omega,xs.some hpn⟩ ?_
    conv=>arg 5;whnf
    refine readX (l:=x.l) (k:=p) rfl (.tail _ (.tail _ hfm)) hpn (xs.some hpn) hz rfl ?_
    conv=>arg 5;whnf
    refine meetc (v:=.bool (betterV z ty)) rfl (by kernel_rfl) (fun β ρ w' hM'=>BT w' (hM.later hM'.below)) ?_
    conv=>arg 5;whnf
    refine wp_br (fun h3=>?_) (fun h3=>?_)
    ·rw [if_pos (.inr h3)] at hbt
     conv=>arg 5;whnf
     refine wp_must ⟨by omega,by show (p:Int)<(x.n:Int);omega,xs.some hpn⟩ ?_
     conv=>arg 5;whnf
     refine readX (l:=x.l) (k:=p) rfl (.tail _ (.tail _ hfm)) hpn (xs.some hpn) hz rfl ?_
     conv=>arg 5;whnf
     refine wp_must ⟨by show -9223372036854775808≤(k:Int)+1;omega,by show (k:Int)+1≤9223372036854775807;omega⟩ ?_
     conv=>arg 5;whnf
     refine wp_end ⟨(k+1,x,z),⟨hlt,hbt.symm,hdz⟩,⟨by repeat' first | exact trivial | refine ⟨.inl rfl,?_⟩ | refine ⟨.inr rfl,?_⟩,⟨by repeat' first | exact trivial | refine ⟨.inl rfl,?_⟩ | refine ⟨.inr rfl,?_⟩,by repeat' first | exact trivial | refine ⟨.inl rfl,?_⟩ | refine ⟨.inr rfl,?_⟩,fun _ h=>h⟩,rfl⟩,by show n - (k+1)<n - k;omega⟩
    ·rw [if_neg (by rw [h3];simp [hy0])] at hbt
     conv=>arg 5;whnf
     refine wp_must ⟨by show -9223372036854775808≤(k:Int)+1;omega,by show (k:Int)+1≤9223372036854775807;omega⟩ ?_
     conv=>arg 5;whnf
     refine wp_end ⟨(k+1,y,ty),⟨hlt,hbt.symm,hty⟩,⟨by repeat' first | exact trivial | refine ⟨.inl rfl,?_⟩ | refine ⟨.inr rfl,?_⟩,⟨by repeat' first | exact trivial | refine ⟨.inl rfl,?_⟩ | refine ⟨.inr rfl,?_⟩,by repeat' first | exact trivial | refine ⟨.inl rfl,?_⟩ | refine ⟨.inr rfl,?_⟩,fun _ h=>h⟩,rfl⟩,by show n - (k+1)<n - k;omega⟩
   ·have hy0:y.n=0:=by simp at h2;omega
    rw [if_pos (.inl hy0)] at hbt
    conv=>arg 5;whnf
    refine wp_must ⟨by omega,by show (p:Int)<(x.n:Int);omega,xs.some hpn⟩ ?_
    conv=>arg 5;whnf
    refine readX (l:=x.l) (k:=p) rfl (.tail _ (.tail _ hfm)) hpn (xs.some hpn) hz rfl ?_
    conv=>arg 5;whnf
    refine wp_must ⟨by show -9223372036854775808≤(k:Int)+1;omega,by show (k:Int)+1≤9223372036854775807;omega⟩ ?_
    conv=>arg 5;whnf
    refine wp_end ⟨(k+1,x,z),⟨hlt,hbt.symm,hdz⟩,⟨by repeat' first | exact trivial | refine ⟨.inl rfl,?_⟩ | refine ⟨.inr rfl,?_⟩,⟨by repeat' first | exact trivial | refine ⟨.inl rfl,?_⟩ | refine ⟨.inr rfl,?_⟩,by repeat' first | exact trivial | refine ⟨.inl rfl,?_⟩ | refine ⟨.inr rfl,?_⟩,fun _ h=>h⟩,rfl⟩,by show n - (k+1)<n - k;omega⟩
 ·have hkn:k=n:=by have h3:=of_decide_eq_false (show decide ((k:Int)<(n:Int))=false from h1);omega
  rw [List.take_of_length_le (by omega)] at hq
  rw [← hq]
  conv=>arg 5;whnf
  exact wp_back fun β ρ w' hM'=>⟨rfl,hM'.below⟩
end Go.Proofs.YtdbjakibneeeiaaGreatDoor.greedy
namespace Go.Proofs.YtdbjakibneeeiaaGreatDoor.greedy
open Go.RowKit Sx txn queue
theorem own_row {w:World} {base:Nat} {e:TypeId} {size:Nat} {v:Value} {n:Nat} {xs:List Value} (h:w.ownsRow base e size v n xs):∃a c,v=.slice a n c∧Sl a n c∧(∀ad,a=some ad→base≤ad.block)∧At w (pt a n) xs:=by
 obtain ⟨hl,⟨rfl,rfl⟩ | ⟨g,cap,cur,rfl,hb,hg,hn,hc,hsz,hx⟩⟩:=h
 ·exact ⟨none,0,rfl,⟨Nat.le_refl _,Nat.zero_le _,fun _=>⟨rfl,rfl⟩⟩,fun ad h=>(by cases h),fun g hg=>(by cases hg)⟩
 ·refine ⟨_,cap,rfl,⟨hn,hc,fun h=>(by cases h)⟩,fun ad h=>(by cases h;exact hb),?_⟩
  by_cases h0:n=0
  ·rw [show pt _ n=none from if_pos h0]
   intro g hg
   cases hg
  ·rw [show pt _ n=_ from if_neg h0]
   intro g' hg'
   cases hg'
   refine ⟨_,hg,fun ad had=>?_⟩
   cases had
   refine ⟨rfl,cur,e,_,rfl,fun j u hu=>?_⟩
   have hj:j<n*size:=by
    have:=(List.getElem?_eq_some_iff.1 hu).1
    omega
   rw [← hx,List.getElem?_take,if_pos hj,Array.getElem?_toList] at hu
   simpa using hu
theorem pt_gives {W w':World} {a:Option Addr} {n:Nat} {xs:List Value} (h:∀ad,a=some ad→W.heap.size≤ad.block) (hat:At w' (pt a n) xs):∀g,(rowF (pt a n) xs).g=some g→W.heap.size≤g∧∃o,w'.heap[g]?=some o∧(rowF (pt a n) xs).holds o:=fun g hg=>by
 refine ⟨?_,hat g hg⟩
 by_cases h0:n=0
 ·rw [show rowF (pt a n) xs=rowF none xs by rw [show pt a n=none from if_pos h0]] at hg;cases hg
 ·rw [show rowF (pt a n) xs=rowF a xs by rw [show pt a n=a from if_neg h0]] at hg
  cases a with
  | none=>cases hg
  | some ad=>cases hg;exact h ad rfl
structure Ac where
 s:Int
 b:Int
 a:Option Addr
 n:Nat
 c:Nat
 l:List Tx
def Ac.cs (x:Ac):List Value:=[.int .i64 x.s,.int .i64 x.b,.slice x.a x.n x.c]
def cellsA (L:List Ac):List Value:=L.flatMap Ac.cs
theorem cellsA_length (L:List Ac):(cellsA L).length=L.length*3:=by
 induction L with
 | nil=>rfl
 | cons x L ih=>unfold cellsA at *;rw [List.flatMap_cons,List.length_append,ih];simp [Ac.cs];omega
theorem cellsA_at {L:List Ac} {k:Nat} {x:Ac} (h:L[k]?=some x):∀(j:Nat) (u:Value),x.cs[j]?=some u→(cellsA L)[k*3+j]?=some u:=by
 induction L generalizing k with
 | nil=>simp at h
 | cons y L ih=>
  intro j u hu
  unfold cellsA
  rw [List.flatMap_cons]
  cases k with
  | zero=>
   simp at h;subst h
   have hj:j<y.cs.length:=(List.getElem?_eq_some_iff.1 hu).1
   rw [Nat.zero_mul,Nat.zero_add,List.getElem?_append_left hj];exact hu
  | succ k=>
   have:=ih (by simpa using h) j u hu
   rw [show (k+1)*3+j=y.cs.length+(k*3+j) from by show _=3+_;omega,List.getElem?_append_right (Nat.le_add_right _ _),Nat.add_sub_cancel_left]
   exact this
def acF (x:Ac):Fact:=rowF (pt x.a x.n) (cellsL x.l)
def Ac.fit (x:Ac):Prop:=Sl x.a x.n x.c∧x.n=x.l.length∧x.l.length≤1000000∧∀t∈x.l,t.d.size≤maxLen
def Acs (w:World) (a:Option Addr) (n c:Nat) (L:List Ac):Prop:=Sl a n c∧n=L.length∧At w (pt a n) (cellsA L)∧∀x∈L,x.fit∧At w (pt x.a x.n) (cellsL x.l)
def acsF (a:Option Addr) (n:Nat) (L:List Ac):List Fact:=rowF (pt a n) (cellsA L)::L.map acF
theorem Acs.facts {w:World} {a n c L} (h:Acs w a n c L):∀φ∈acsF a n L,∀g,φ.g=some g→∃o,w.heap[g]?=some o∧φ.holds o:=by
 intro φ hφ g hg
 rcases List.mem_cons.1 hφ with rfl | hφ
 ·exact h.2.2.1 g hg
 ·obtain ⟨x,hx,rfl⟩:=List.mem_map.1 hφ
  exact (h.2.2.2 x hx).2 g hg
theorem Mem.acs {W:World} {G:Option Nat} {m:M} {β ρ} {w w0:World} {a n c L} (h0:Acs w0 a n c L) (hM:Mem W G m β ρ w) (hm:∀φ∈acsF a n L,φ∈m.facts):Acs w a n c L:=
 ⟨h0.1,h0.2.1,hM.at_ (hm _ (.head _)),fun x hx=>⟨(h0.2.2.2 x hx).1,hM.at_ (hm _ (.tail _ (List.mem_map.2 ⟨x,hx,rfl⟩)))⟩⟩
def cntM (m:List (Int×Value)) (s:Int):Int:=match lkM m s with | some (.int _ c)=>c | _=>0
def seenM (L:List Ac):List (Int×Value):=L.foldl (fun m x=>putM m x.s (.int .i64 (cntM m x.s+1))) []
def cnt (L:List Ac) (s:Int):Nat:=(L.filter fun x=>x.s==s).length
theorem cnt_app (L:List Ac) (y:Ac) (s:Int):cnt (L++[y]) s=cnt L s+if y.s=s then 1 else 0:=by
 unfold cnt
 rw [List.filter_append,List.length_append]
 by_cases h:y.s=s <;> simp [h]
theorem seen_spec (L:List Ac) (k:Nat):∀s,(lkM (seenM (L.take k)) s=none∧cnt (L.take k) s=0)∨∃c:Nat,lkM (seenM (L.take k)) s=some (.int .i64 c)∧cnt (L.take k) s=c∧0<c:=by
 induction k with
 | zero=>intro s;exact .inl ⟨rfl,rfl⟩
 | succ k ih=>
  intro s
  cases hx:L[k]? with
  | none=>rw [List.take_add_one,hx];simpa using ih s
  | some y=>
   have e:seenM (L.take (k+1))=putM (seenM (L.take k)) y.s (.int .i64 (cntM (seenM (L.take k)) y.s+1)):=by
    unfold seenM
    rw [List.take_add_one,hx,List.foldl_append]
    rfl
   have e2:cnt (L.take (k+1)) s=cnt (L.take k) s+if y.s=s then 1 else 0:=by
    rw [List.take_add_one,hx];exact cnt_app _ _ _
   rw [e,e2,lkM_put]
   by_cases h:y.s=s
   ·subst h
    rw [if_pos rfl,if_pos rfl]
    refine .inr ⟨cnt (L.take k) y.s+1,?_,rfl,by omega⟩
    rcases ih y.s with ⟨h1,h2⟩ | ⟨c,h1,h2,_⟩
    ·unfold cntM;rw [h1,h2];rfl
    ·unfold cntM;rw [h1,h2];rfl
   ·rw [if_neg h,if_neg h];exact ih s
def frS (L:List Ac) (y:Ac):List Ac:=if L.any (fun x=>x.s==y.s) then L else L++[y]
def firstsV (L:List Ac):List Ac:=L.foldl frS []
theorem firstsV_take {L:List Ac} {k:Nat} {x:Ac} (h:L[k]?=some x):firstsV (L.take (k+1))=frS (firstsV (L.take k)) x:=by
 unfold firstsV
 rw [List.take_add_one,h,List.foldl_append]
 rfl
theorem firstsV_any (L:List Ac) (k:Nat) (s:Int):(firstsV (L.take k)).any (fun x=>x.s==s)=(L.take k).any fun x=>x.s==s:=by
 induction k with
 | zero=>rfl
 | succ k ih=>
  cases hx:L[k]? with
  | none=>rw [List.take_add_one,hx];simpa using ih
  | some y=>
   rw [firstsV_take hx,List.take_add_one,hx]
   unfold frS
   rw [List.any_append]
   by_cases h:(firstsV (L.take k)).any (fun x=>x.s==y.s)
   ·rw [if_pos h,ih]
    by_cases hs:y.s=s
    ·subst hs;rw [← ih,h];rfl
    ·simp [hs]
   ·rw [if_neg h,List.any_append,ih];rfl
theorem cnt_any (L:List Ac) (s:Int):cnt L s=0↔L.any (fun x=>x.s==s)=false:=by
 unfold cnt
 rw [List.length_eq_zero_iff,List.filter_eq_nil_iff]
 simp [List.any_eq_false]
def lnOf (x:Ac):Int×List Tx:=(x.s,lineV x.b x.l)
def lnP (x:Ln):Int×List Tx:=(x.s,x.l)
theorem firstsV_le (L:List Ac) (k:Nat):(firstsV (L.take k)).length≤k:=by
 induction k with
 | zero=>simp [firstsV]
 | succ k ih=>
  cases hx:L[k]? with
  | none=>rw [List.take_add_one,hx];simp;omega
  | some y=>
   rw [firstsV_take hx]
   unfold frS
   split
   ·omega
   ·rw [List.length_append];simp;omega
theorem cellsN_length (L:List Ln):(cellsN L).length=L.length*2:=by
 induction L with
 | nil=>rfl
 | cons x L ih=>unfold cellsN at *;rw [List.flatMap_cons,List.length_append,ih];simp [Ln.cs];omega
theorem cellsN_append (L:List Ln) (x:Ln):cellsN (L++[x])=cellsN L++x.cs:=by simp [cellsN]
theorem lineV_mem {b:Int} {l:List Tx}:∀t∈lineV b l,t∈l:=by
 intro t ht
 have h1:t∈readyV b l:=by
  unfold lineV lineR at ht
  split at ht
  ·exact ht
  ·exact List.mem_of_mem_take ht
 exact List.mem_of_mem_take h1
section
variable {P : Program} {W : World} {G : Option Nat} {Q : Ending → World → Prop} {ds : List Deferred}
theorem meet1H {f:FuncId} {args:List Sx.T} {l:List Value} {m:M} {k:Value→List Fact→Tree} {n:Nat} {v:Option Addr→Nat→Value} {xs:List Value} (hv:valsOf args=some l) (hc:callable P f=true)
  (hC:∀β ρ w,Mem W G m β ρ w→Calls P f (List.toArray l) w fun e w'=>∃i:One,Sl i.1 n i.2∧Gives w w' e (v i.1 i.2) [rowF (pt i.1 n) xs]) (h:∀a c,Sl a n c→(∀g,(rowF (pt a n) xs).g=some g→W.heap.size≤g∧∀φ∈m.facts,φ.g≠some g)→(k (v a c) [rowF (pt a n) xs]).wpD P W G Q ds):(Tree.call f args m k).wpD P W G Q ds:=
 meetR (ι:=One) (ok:=fun i=>Sl i.1 n i.2∧∀g,(rowF (pt i.1 n) xs).g=some g→W.heap.size≤g∧∀φ∈m.facts,φ.g≠some g) (v:=fun i=>v i.1 i.2) (fs:=fun i=>[rowF (pt i.1 n) xs]) hc (fun β ρ w vs hm hr=>by
  rw [valsOf_spec _ _ _ hv hr]
  refine (hC β ρ w hm).mono fun e w' ⟨i,hi,hg⟩=>⟨i,⟨hi,fun g he=>?_⟩,hg⟩
  have h1:=(hg.2.2 _ List.mem_cons_self g he).1
  refine ⟨Nat.le_trans hm.grown.size h1,fun φ hφ hgφ=>?_⟩
  obtain ⟨o,ho,_⟩:=(hm.fact φ hφ g hgφ).2
  have h2:=(Array.getElem?_eq_some_iff.1 ho).1
  omega) (fun i hi=>h i.1 i.2 hi.1 hi.2)
end
theorem lines (L:List Ac) (a:Option Addr) (n c:Nat) (w:World) (hM:Most w) (hA:Acs w a n c L) (h1000:n≤1000000) :
  Calls Tryz.prog 174 (List.toArray [.slice a n c]) w fun e w'=>∃(i:One) (Ls:List Ln),Ls.map lnP=(firstsV L).map lnOf∧(∀x∈Ls,Ln.fit x)∧Sl i.1 Ls.length i.2∧Gives w w' e (.slice i.1 Ls.length i.2) (rowF (pt i.1 Ls.length) (cellsN Ls)::Ls.map lnF):=by
 have hs:=hA.1
 have hn:=hA.2.1
 have hn63:=hs.le
 have hbelow:∀g,w.heap.size≤g→∀φ∈acsF a n L,φ.g≠some g:=fun g hg φ hφ e=>by
  obtain ⟨o,ho,_⟩:=hA.facts φ hφ g e
  have:=(Array.getElem?_eq_some_iff.1 ho).1
  omega
 refine calls_of_exec (env_ok.keeps.open_ [1000000] true) Tryz.func174 rfl [(8,(line [0,1,2,3,4,5,6,7,8],[]))] (schedQ_ok _ _ (by kernel_rfl)) (ownF (.slice none 0 0) 225 2 0 (cellsN [])::acsF a n L) (fun φ hφ g' hg'=>(List.mem_cons.1 hφ).elim (fun e=>by subst e;cases hg') fun hφ=>hA.facts φ hφ g' hg') ?_
 conv=>arg 5;whnf
 refine op_makeMap rfl (fun g hg=>?_)
 conv=>arg 5;whnf
 refine loop_ruleE (env_ok.keeps.open_ [1000000] true) [(8,(line [0,1,2,3,4,5,6,7,8],[]))] (schedQ_ok _ _ (by kernel_rfl)) [0,0] (fun q:Nat×List Ln×Value=>q.1≤n∧q.2.1.map lnP=(firstsV (L.take q.1)).map lnOf∧(∀x∈q.2.1,Ln.fit x)∧(∀φ∈q.2.1.map lnF,∀g',φ.g=some g'→w.heap.size≤g'∧g'≠g)∧TV w q.2.2 q.2.1.length∧(∀φ∈mapF g []::(q.2.1.map lnF++acsF a n L),∀g',φ.g=some g'→q.2.2.ownBlock≠some g')) (fun q=>(⟨[],[],mapF g (seenM (L.take q.1))::ownF q.2.2 225 2 q.2.1.length (cellsN q.2.1)::(q.2.1.map lnF++acsF a n L)⟩,[.v (.slice a n c),.any,.any,.v q.2.2,.v (.map (some g)),.any,.any,.any,.v (.slice a n c),.v (.int .i64 n),.v (.int .i64 q.1),.any,.any,.any,.any,.any,.any,.any,.any,.any,.any,.any,.any,.any,.any,.any,.any,.any,.any,.any,.any,.any,.any,.any])) (fun q=>n - q.1) (0,[],.slice none 0 0) ⟨Nat.zero_le _,rfl,by simp,by simp,tv_nil,by intro φ _ g' _ e;cases e⟩ ⟨by repeat' first | exact trivial | refine ⟨.inl rfl,?_⟩ | refine ⟨.inr rfl,?_⟩,⟨by repeat' first | exact trivial | refine ⟨.inl rfl,?_⟩ | refine ⟨.inr rfl,?_⟩,by repeat' first | exact trivial | refine ⟨.inl rfl,?_⟩ | refine ⟨.inr rfl,?_⟩,fun _ h=>h⟩,rfl⟩ ?_
 rintro ⟨k,Q,va⟩ ⟨hk,hq,hfit,hfr,hV,hva⟩
 have hk:k≤n:=hk
 have hq:Q.map lnP=(firstsV (L.take k)).map lnOf:=hq
 have hfit:∀x∈Q,Ln.fit x:=hfit
 have hfr:∀φ∈Q.map lnF,∀g',φ.g=some g'→w.heap.size≤g'∧g'≠g:=hfr
 have hV:TV w va Q.length:=hV
 have hva:∀φ∈mapF g []::(Q.map lnF++acsF a n L),∀g',φ.g=some g'→va.ownBlock≠some g':=hva
 conv=>arg 5;whnf
 refine wp_br (fun h1=>?_) (fun h1=>?_)
 ·have hlt:k<n:=by have h3:=of_decide_eq_true (show decide ((k:Int)<(n:Int))=true from h1);omega
  obtain ⟨x,hx⟩:∃x,L[k]?=some x:=⟨_,List.getElem?_eq_getElem (by omega)⟩
  have hxm:x∈L:=List.mem_of_getElem? hx
  conv=>arg 5;whnf
  refine wp_must ⟨by omega,by show (k:Int)<(n:Int);omega,hs.some hlt⟩ ?_
  conv=>arg 5;whnf
  refine readS (vs:=x.cs) (sz:=3) (k:=k) rfl rfl (.tail _ (.tail _ (List.mem_append_right _ (.head _)))) hlt (hs.some hlt) (cellsA_at hx) rfl ?_
  conv=>arg 5;whnf
  refine peek_lookup (z:=.int .i64 0) (l:=seenM (L.take k)) Tryz.underlying222 Tryz.underlying3 (fun w=>by kernel_rfl) (.head _) ?_
  obtain ⟨c',hc',hlk,hck⟩:∃c':Nat,cnt (L.take k) x.s=c'∧(lkM (seenM (L.take k)) x.s).getD (.int .i64 0)=.int .i64 (c':Int)∧cntM (seenM (L.take k)) x.s=(c':Int):=by
   rcases seen_spec L k x.s with ⟨h2,h3⟩ | ⟨c',h2,h3,_⟩
   ·exact ⟨0,h3,by rw [h2];rfl,by unfold cntM;rw [h2];rfl⟩
   ·exact ⟨c',h3,by rw [h2];rfl,by unfold cntM;rw [h2]⟩
  have hck2:c'≤k:=by
   rw [← hc']
   unfold cnt
   refine Nat.le_trans (List.length_filter_le _ _) ?_
   rw [List.length_take];omega
  have hsm:seenM (L.take (k+1))=putM (seenM (L.take k)) x.s (.int .i64 ((c':Int)+1)):=by
   rw [← hck]
   unfold seenM
   rw [List.take_add_one,hx,List.foldl_append]
   rfl
  have hlk2:(lkM (putM (seenM (L.take k)) x.s (.int .i64 ((c':Int)+1))) x.s).getD (.int .i64 0)=.int .i64 ((c':Int)+1):=by
   rw [lkM_put,if_pos rfl];rfl
  have hft:=firstsV_take hx
  have hapart:∀ψ∈ownF va 225 2 Q.length (cellsN Q)::(Q.map lnF++acsF a n L),ψ.g≠some g:=fun ψ hψ=>by
   rcases List.mem_cons.1 hψ with rfl | hψ
   ·exact hva _ (.head _) g rfl
   ·rcases List.mem_append.1 hψ with hψ | hψ
    ·exact fun e=>(hfr ψ hψ g e).2 rfl
    ·exact hbelow g hg ψ hψ
  rw [show (if false=true then Value.tuple #[(lkM (seenM (List.take k L)) x.s).getD (.int .i64 0),.bool (lkM (seenM (List.take k L)) x.s).isSome] else (lkM (seenM (List.take k L)) x.s).getD (.int .i64 0))=.int .i64 (c':Int) from hlk]
  generalize seenM (L.take k)=S at *
  conv=>arg 5;whnf
  refine wp_must ⟨by omega,by omega⟩ ?_
  conv=>arg 5;whnf
  refine op_mapUpdate (g:=g) (l:=S) (x:=x.s) (v:=.int .i64 ((c':Int)+1)) (mapF g (putM S x.s (.int .i64 ((c':Int)+1)))::ownF va 225 2 Q.length (cellsN Q)::(Q.map lnF++acsF a n L)) rfl rfl rfl rfl Tryz.underlying222 Tryz.underlying3 (.head _) (.inl hg) (fun ψ hψ=>(List.mem_cons.1 hψ).elim .inr fun hψ=>.inl ⟨.tail _ hψ,hapart ψ hψ⟩) ?_
  conv=>arg 5;whnf
  refine peek_lookup (z:=.int .i64 0) (l:=putM S x.s (.int .i64 ((c':Int)+1))) Tryz.underlying222 Tryz.underlying3 (fun w=>by kernel_rfl) (.head _) ?_
  rw [show (if false=true then Value.tuple #[(lkM (putM S x.s (.int .i64 ((c':Int)+1))) x.s).getD (.int .i64 0),.bool (lkM (putM S x.s (.int .i64 ((c':Int)+1))) x.s).isSome] else (lkM (putM S x.s (.int .i64 ((c':Int)+1))) x.s).getD (.int .i64 0))=.int .i64 ((c':Int)+1) from hlk2]
  conv=>arg 5;whnf
  refine wp_br (fun h2=>?_) (fun h2=>?_)
  ·have h0:c'=0:=by have h3:=of_decide_eq_true h2;omega
   have hany:=(cnt_any _ _).1 (hc'.trans h0)
   rw [← firstsV_any] at hany
   have hft:firstsV (L.take (k+1))=firstsV (L.take k)++[x]:=by rw [hft];unfold frS;rw [if_neg (by rw [hany];simp)]
   obtain ⟨⟨xs,xn,xl,xd⟩,_⟩:=hA.2.2.2 x hxm
   have hQ:Q.length≤k:=by
    have h4:=congrArg List.length hq
    simp only [List.length_map] at h4
    rw [h4];exact firstsV_le L k
   have hlm:(lineV x.b x.l).length≤1000000:=by
    refine Nat.le_trans ?_ xl
    unfold lineV lineR readyV
    split <;> simp [List.length_take] <;> omega
   have LO:=fun w hM hr=>lineOf x.s x.b x.l x.a x.n x.c w hM xs xn hr xl
   have hld:∀t∈lineV x.b x.l,t.d.size≤maxLen:=fun t ht=>xd t (lineV_mem t ht)
   have hlo:lnOf x=(x.s,lineV x.b x.l):=rfl
   generalize lineV x.b x.l=v at *
   conv=>arg 5;whnf
   refine meet1H (f:=210) (n:=v.length) (v:=fun a1 c1=>.slice a1 v.length c1) (xs:=cellsL v) rfl (by kernel_rfl) (fun β ρ w' hM'=>LO w' (hM.later hM'.below) (hM'.at_ (.tail _ (.tail _ (List.mem_append_right _ (.tail _ (List.mem_map.2 ⟨x,hxm,rfl⟩))))))) (fun y c_y h_y f_y=>?_)
   have ec:cellsN (Q++[⟨x.s,y,v.length,c_y,v⟩])=cellsN Q++[.int .i64 x.s,.slice y v.length c_y]:=cellsN_append Q _
   have el:(Q++[(⟨x.s,y,v.length,c_y,v⟩:Ln)]).length=Q.length+1:=by simp
   have hfs:∀ψ∈rowF (pt y v.length) (cellsL v)::mapF g (putM S x.s (.int .i64 ((c':Int)+1)))::(Q.map lnF++acsF a n L),ψ∈rowF (pt y v.length) (cellsL v)::mapF g (putM S x.s (.int .i64 ((c':Int)+1)))::ownF va 225 2 Q.length (cellsN Q)::(Q.map lnF++acsF a n L)∧∀g',ψ.g=some g'→va.ownBlock≠some g':=fun ψ hψ=>by
    rcases List.mem_cons.1 hψ with rfl | hψ
    ·exact ⟨.head _,fun g' hg'=>(f_y g' hg').2 _ (.tail _ (.head _))⟩
    ·rcases List.mem_cons.1 hψ with rfl | hψ
     ·exact ⟨.tail _ (.head _),fun g' hg'=>hva _ (.head _) g' hg'⟩
     ·exact ⟨.tail _ (.tail _ (.tail _ hψ)),fun g' hg'=>hva ψ (.tail _ hψ) g' hg'⟩
   conv=>arg 5;whnf
   refine op_appendF (env_ok.keeps.open_ [1000000] true) (v:=va) (n:=Q.length) (xs:=cellsN Q) (news:=[.int .i64 x.s,.slice y v.length c_y]) (rowF (pt y v.length) (cellsL v)::mapF g (putM S x.s (.int .i64 ((c':Int)+1)))::(Q.map lnF++acsF a n L)) rfl rfl rfl rfl rfl rfl (by exact (.tail _ (.tail _ (.head _)))) hV (cellsN_length _) (by show Q.length+1≤maxLen;unfold maxLen;omega) (by show (Q.length+1)*32≤_;omega) (by intro F hF;cases hF;exact .inr ⟨_,.tail _ (.head _),rfl⟩) (by exact hfs) (fun v2 hV2 hap=>?_)
   conv=>arg 5;whnf
   refine wp_must ⟨by show -9223372036854775808≤(k:Int)+1;omega,by show (k:Int)+1≤9223372036854775807;omega⟩ ?_
   refine wp_end ⟨(k+1,Q++[⟨x.s,y,v.length,c_y,v⟩],v2),⟨hlt,?_,?_,?_,by show TV w v2 _;rw [el];exact hV2,?_⟩,?_,by show n - (k+1)<n - k;omega⟩
   ·show (Q++[(⟨x.s,y,v.length,c_y,v⟩:Ln)]).map lnP=(firstsV (L.take (k+1))).map lnOf
    rw [List.map_append,hq,hft,List.map_append];simp [lnP,hlo]
   ·exact fun z hz=>(List.mem_append.1 hz).elim (hfit z) fun hz=>by obtain rfl:=List.mem_singleton.1 hz;exact ⟨h_y,rfl,hld⟩
   ·intro φ hφ g' hg'
    rcases List.mem_map.1 hφ with ⟨z,hz,rfl⟩
    rcases List.mem_append.1 hz with hz | hz
    ·exact hfr _ (List.mem_map.2 ⟨z,hz,rfl⟩) g' hg'
    ·obtain rfl:=List.mem_singleton.1 hz
     exact ⟨(f_y g' hg').1,fun e=>by subst e;exact (f_y _ hg').2 _ (.head _) rfl⟩
   ·intro φ hφ g' hg'
    rcases List.mem_cons.1 hφ with rfl | hφ
    ·exact hap _ (.tail _ (.head _)) g' hg'
    ·rcases List.mem_append.1 hφ with hφ | hφ
     ·obtain ⟨z,hz,rfl⟩:=List.mem_map.1 hφ
      rcases List.mem_append.1 hz with hz | hz
      ·exact hap _ (.tail _ (.tail _ (List.mem_append_left _ (List.mem_map.2 ⟨z,hz,rfl⟩)))) g' hg'
      ·obtain rfl:=List.mem_singleton.1 hz;exact hap _ (.head _) g' hg'
     ·exact hap _ (.tail _ (.tail _ (List.mem_append_right _ hφ))) g' hg'
   ·have hms:mapF g (seenM (L.take (k+1)))=mapF g (putM S x.s (.int .i64 ((c':Int)+1))):=by rw [hsm]
    exact ⟨by repeat' first | exact trivial | refine ⟨.inl rfl,?_⟩ | refine ⟨.inr rfl,?_⟩,⟨by repeat' first | exact trivial | refine ⟨.inl rfl,?_⟩ | refine ⟨.inr rfl,?_⟩,by repeat' first | exact trivial | refine ⟨.inl rfl,?_⟩ | refine ⟨.inr rfl,?_⟩,fun φ hφ=>by
     rcases List.mem_cons.1 hφ with rfl | hφ
     ·rw [hms];exact .tail _ (.tail _ (.head _))
     ·rcases List.mem_cons.1 hφ with rfl | hφ
      ·simp only [ec,el];exact .head _
      ·rcases List.mem_append.1 hφ with hφ | hφ
       ·obtain ⟨z,hz,rfl⟩:=List.mem_map.1 hφ
        rcases List.mem_append.1 hz with hz | hz
        ·exact .tail _ (.tail _ (.tail _ (List.mem_append_left _ (List.mem_map.2 ⟨z,hz,rfl⟩))))
        ·obtain rfl:=List.mem_singleton.1 hz;exact .tail _ (.head _)
       ·exact .tail _ (.tail _ (.tail _ (List.mem_append_right _ hφ)))⟩,rfl⟩
  ·have h0:c'≠0:=by intro e;subst e;simp at h2
   have hany:(firstsV (L.take k)).any (fun z=>z.s==x.s)=true:=by
    rw [firstsV_any]
    cases h5:(L.take k).any fun z=>z.s==x.s with
    | true=>rfl
    | false=>exact absurd (hc'.symm.trans ((cnt_any _ _).2 h5)) h0
   have hft:firstsV (L.take (k+1))=firstsV (L.take k):=by rw [hft];unfold frS;rw [if_pos hany]
   have hms:mapF g (seenM (L.take (k+1)))=mapF g (putM S x.s (.int .i64 ((c':Int)+1))):=by rw [hsm]
   conv=>arg 5;whnf
   refine wp_must ⟨by show -9223372036854775808≤(k:Int)+1;omega,by show (k:Int)+1≤9223372036854775807;omega⟩ ?_
   refine wp_end ⟨(k+1,Q,va),⟨hlt,by show Q.map lnP=(firstsV (L.take (k+1))).map lnOf;rw [hq,hft],hfit,hfr,hV,hva⟩,⟨by repeat' first | exact trivial | refine ⟨.inl rfl,?_⟩ | refine ⟨.inr rfl,?_⟩,⟨by repeat' first | exact trivial | refine ⟨.inl rfl,?_⟩ | refine ⟨.inr rfl,?_⟩,by repeat' first | exact trivial | refine ⟨.inl rfl,?_⟩ | refine ⟨.inr rfl,?_⟩,fun φ hφ=>by
    rcases List.mem_cons.1 hφ with rfl | hφ
    ·rw [hms];exact .head _
    ·exact .tail _ hφ⟩,rfl⟩,by show n - (k+1)<n - k;omega⟩
 ·have hkn:k=n:=by have h3:=of_decide_eq_false (show decide ((k:Int)<(n:Int))=false from h1);omega
  rw [List.take_of_length_le (by omega)] at hq
  conv=>arg 5;whnf
  refine wp_back fun β ρ w' hM'=>?_
  have hO:=own_of_fact hM' (v:=va) (e:=225) (size:=2) (n:=Q.length) (xs:=cellsN Q) (.tail _ (.head _)) hV (cellsN_length _)
  obtain ⟨a2,c2,hv2,hs2,hb2,hat2⟩:=own_row hO
  refine ⟨(a2,c2),Q,hq,hfit,hs2,by rw [← hv2];rfl,hM'.below,fun φ hφ g' hg'=>?_⟩
  rcases List.mem_cons.1 hφ with rfl | hφ
  ·exact pt_gives hb2 hat2 g' hg'
  ·exact ⟨(hfr φ hφ g' hg').1,(hM'.fact φ (.tail _ (.tail _ (List.mem_append_left _ hφ))) g' hg').2⟩
end Go.Proofs.YtdbjakibneeeiaaGreatDoor.greedy
namespace Go.Proofs.YtdbjakibneeeiaaGreatDoor.greedy
open Go.RowKit Sx txn queue
def bsS (q:Option (Nat×Tx)) (i:Nat) (r:List Tx):Option (Nat×Tx):=match r with
 | []=>q
 | t::_=>match q with
  | none=>some (i,t)
  | some u=>if betterV t u.2 then some (i,t) else some u
def bestI (left:List (List Tx)) (n:Nat):Option (Nat×Tx):=(List.range n).foldl (fun q i=>bsS q i (left.getD i [])) none
theorem bestI_succ (left:List (List Tx)) (n:Nat):bestI left (n+1)=bsS (bestI left n) n (left.getD n []):=by
 unfold bestI
 rw [List.range_succ,List.foldl_append]
 rfl
theorem bestI_some {left:List (List Tx)} {n:Nat} {q:Nat×Tx} (h:bestI left n=some q):q.1<n∧∃r,left.getD q.1 []=q.2::r:=by
 induction n generalizing q with
 | zero=>cases h
 | succ n ih=>
  rw [bestI_succ] at h
  unfold bsS at h
  split at h
  ·have:=ih h;exact ⟨by omega,this.2⟩
  ·rename_i t r hr
   split at h
   ·cases h;exact ⟨by omega,r,hr⟩
   ·rename_i u hu
    split at h
    ·cases h;exact ⟨by omega,r,hr⟩
    ·cases h;have:=ih hu;exact ⟨by omega,this.2⟩
theorem bestI_none {left:List (List Tx)} {n:Nat}:bestI left n=none↔∀i,i<n→left.getD i []=[]:=by
 induction n with
 | zero=>exact ⟨fun _ i hi=>by omega,fun _=>rfl⟩
 | succ n ih=>
  rw [bestI_succ]
  constructor
  ·intro h i hi
   unfold bsS at h
   split at h
   ·rename_i hr
    by_cases e:i=n
    ·subst e;exact hr
    ·exact ih.1 h i (by omega)
   ·split at h
    ·cases h
    ·split at h <;> cases h
  ·intro h
   rw [h n (by omega),ih.2 fun i hi=>h i (by omega)]
   rfl
def sizeL (left:List (List Tx)):Nat:=(left.map List.length).sum
theorem sizeL_set {left:List (List Tx)} {k:Nat} (hk:k<left.length) (r:List Tx):sizeL (left.set k r)+(left.getD k []).length=sizeL left+r.length:=by
 unfold sizeL
 induction left generalizing k with
 | nil=>simp at hk
 | cons x left ih=>
  cases k with
  | zero=>simp;omega
  | succ k=>have:=ih (k:=k) (by simpa using hk);simp at this ⊢;omega
def tplN:Nat→List (List Tx)→Int→List Tx
 | 0,_,_=>[]
 | f+1,left,gas=>match bestI left left.length with
  | none=>[]
  | some q=>if gas<q.2.g then tplN f (left.set q.1 []) gas else q.2::tplN f (left.set q.1 (left.getD q.1 []).tail) (gas - q.2.g)
def tplV (left:List (List Tx)) (gas:Int):List Tx:=tplN (sizeL left) left gas
theorem getD_lt {left:List (List Tx)} {k:Nat} {t:Tx} {r:List Tx} (h:left.getD k []=t::r):k<left.length:=by
 by_cases hk:k<left.length
 ·exact hk
 ·rw [List.getD_eq_getElem?_getD,List.getElem?_eq_none (by omega)] at h;cases h
theorem size_nil {left:List (List Tx)} {k:Nat} {t:Tx} {r:List Tx} (h:left.getD k []=t::r):sizeL (left.set k [])<sizeL left:=by
 have:=sizeL_set (getD_lt h) []
 rw [h] at this;simp at this;omega
theorem size_tail {left:List (List Tx)} {k:Nat} {t:Tx} {r:List Tx} (h:left.getD k []=t::r):sizeL (left.set k (left.getD k []).tail)<sizeL left:=by
 have:=sizeL_set (getD_lt h) (left.getD k []).tail
 rw [h] at this ⊢;simp at this ⊢;omega
theorem tplN_more:∀(f:Nat) (left:List (List Tx)) (gas:Int),sizeL left≤f→tplN f left gas=tplN (sizeL left) left gas:=by
 intro f
 induction f using Nat.strongRecOn with
 | _ f ih=>
  intro left gas hf
  cases hb:bestI left left.length with
  | none=>
   have:∀g,tplN g left gas=[]:=fun g=>by cases g with
    | zero=>rfl
    | succ g=>unfold tplN;rw [hb]
   rw [this,this]
  | some q=>
   obtain ⟨_,r,hr⟩:=bestI_some hb
   have h1:=size_nil hr
   have h2:=size_tail hr
   obtain ⟨s,hs⟩:∃s,sizeL left=s+1:=⟨sizeL left - 1,by omega⟩
   obtain ⟨g,rfl⟩:∃g,f=g+1:=⟨f - 1,by omega⟩
   rw [hs]
   unfold tplN
   rw [hb]
   simp only []
   split
   ·rw [ih g (by omega) _ _ (by omega)]
    by_cases e:s=g
    ·subst e;rw [ih s (by omega) _ _ (by omega)]
    ·rw [ih s (by omega) _ _ (by omega)]
   ·rw [ih g (by omega) _ _ (by omega)]
    by_cases e:s=g
    ·subst e;rw [ih s (by omega) _ _ (by omega)]
    ·rw [ih s (by omega) _ _ (by omega)]
theorem tplV_none {left:List (List Tx)} {gas:Int} (h:bestI left left.length=none):tplV left gas=[]:=by
 unfold tplV
 cases sizeL left with
 | zero=>rfl
 | succ f=>unfold tplN;rw [h]
theorem tplV_some {left:List (List Tx)} {gas:Int} {q:Nat×Tx} (h:bestI left left.length=some q) :
  tplV left gas=if gas<q.2.g then tplV (left.set q.1 []) gas else q.2::tplV (left.set q.1 (left.getD q.1 []).tail) (gas - q.2.g):=by
 obtain ⟨_,r,hr⟩:=bestI_some h
 have h1:=size_nil hr
 have h2:=size_tail hr
 unfold tplV
 obtain ⟨s,hs⟩:∃s,sizeL left=s+1:=⟨sizeL left - 1,by omega⟩
 rw [hs]
 show (match bestI left left.length with
  | none=>[]
  | some q=>if gas<q.2.g then tplN s (left.set q.1 []) gas else q.2::tplN s (left.set q.1 (left.getD q.1 []).tail) (gas - q.2.g))=_
 rw [h]
 simp only []
 rw [tplN_more s (left.set q.1 []) gas (by omega),tplN_more s (left.set q.1 (left.getD q.1 []).tail) _ (by omega)]
def rest (m:List (Int×Value)) (x:Ln):List Tx:=match plc m x with | some p=>x.l.drop p | none=>[]
def leftOf (m:List (Int×Value)) (L:List Ln):List (List Tx):=L.map (rest m)
theorem leftOf_get {m:List (Int×Value)} {L:List Ln} {i:Nat} {x:Ln} (h:L[i]?=some x):(leftOf m L).getD i []=rest m x:=by
 unfold leftOf
 rw [List.getD_eq_getElem?_getD,List.getElem?_map,h]
 rfl
def fitN (x:Ln):Prop:=x.n=x.l.length
theorem best_is {m:List (Int×Value)} {L:List Ln} (hp:placed m L) (hf:∀x∈L,fitN x) (n:Nat) (hn:n≤L.length) :
  (bestI (leftOf m L) n=none∧bestV m (L.take n)=(lz,tz))∨∃i x p,bestI (leftOf m L) n=some (i,nx x.l p)∧bestV m (L.take n)=(x,nx x.l p)∧L[i]?=some x∧lkM m x.s=some (.int .i64 (p:Int))∧p<x.n:=by
 induction n with
 | zero=>exact .inl ⟨rfl,rfl⟩
 | succ n ih=>
  obtain ⟨x,hx⟩:∃x,L[n]?=some x:=⟨_,List.getElem?_eq_getElem (by omega)⟩
  have hxm:=List.mem_of_getElem? hx
  rw [bestI_succ,bestV_take hx,leftOf_get hx]
  cases hlk:lkM m x.s with
  | none=>
   have e1:rest m x=[]:=by unfold rest plc;rw [hlk]
   have e2:∀q,bestS m q x=q:=fun q=>by unfold bestS plc;rw [hlk]
   rw [e1,e2]
   exact ih (by omega)
  | some v=>
   obtain ⟨p,rfl,hpn⟩:=hp x hxm v hlk
   have hpl:plc m x=some p:=by unfold plc;rw [hlk];rfl
   have hlen:p<x.l.length:=by have:=hf x hxm;unfold fitN at this;omega
   have e1:rest m x=nx x.l p::x.l.drop (p+1):=by
    unfold rest
    rw [hpl]
    show x.l.drop p=_
    rw [List.drop_eq_getElem_cons hlen]
    have:=nx_get hlen
    rw [List.getElem?_eq_getElem hlen] at this
    rw [Option.some.inj this]
   have e2:∀q,bestS m q x=if q.1.n=0∨betterV (nx x.l p) q.2=true then (x,nx x.l p) else q:=fun q=>by unfold bestS;rw [hpl]
   rw [e1,e2]
   rcases ih (by omega) with ⟨h1,h2⟩ | ⟨i,y,r,h1,h2,h3,h4,h5⟩
   ·rw [h1,h2,if_pos (.inl rfl)]
    exact .inr ⟨n,x,p,rfl,rfl,hx,hlk,hpn⟩
   ·rw [h1,h2]
    have hy0:¬ y.n=0:=by omega
    by_cases hb:betterV (nx x.l p) (nx y.l r)=true
    ·rw [if_pos (.inr hb)]
     refine .inr ⟨n,x,p,?_,rfl,hx,hlk,hpn⟩
     show (if betterV (nx x.l p) (nx y.l r) then some (n,nx x.l p) else some (i,nx y.l r))=_
     rw [if_pos hb]
    ·rw [if_neg (by simp [hy0,hb])]
     refine .inr ⟨i,y,r,?_,rfl,h3,h4,h5⟩
     show (if betterV (nx x.l p) (nx y.l r) then some (n,nx x.l p) else some (i,nx y.l r))=_
     rw [if_neg hb]
theorem plc_of {m:List (Int×Value)} {x:Ln} {p:Nat} (h:lkM m x.s=some (.int .i64 (p:Int))):plc m x=some p:=by unfold plc;rw [h];rfl
theorem rest_ne {m m':List (Int×Value)} {x:Ln} (h:lkM m' x.s=lkM m x.s):rest m' x=rest m x:=by unfold rest plc;rw [h]
theorem leftOf_one {m m':List (Int×Value)} {L:List Ln} {i:Nat} {x:Ln} {r:List Tx} (hi:L[i]?=some x) (hnd:(L.map (·.s)).Nodup) (h:∀s,s≠x.s→lkM m' s=lkM m s) (hr:rest m' x=r):leftOf m' L=(leftOf m L).set i r:=by
 apply List.ext_getElem?
 intro j
 unfold leftOf
 rw [List.getElem?_map,List.getElem?_set,List.length_map,List.getElem?_map]
 have hil:=(List.getElem?_eq_some_iff.1 hi).1
 by_cases e:i=j
 ·subst e
  rw [if_pos rfl,if_pos hil,hi]
  exact congrArg some hr
 ·rw [if_neg e]
  cases hj:L[j]? with
  | none=>rfl
  | some y=>
   have hne:y.s≠x.s:=by
    intro es
    have h1:(L.map (·.s))[i]?=some x.s:=by rw [List.getElem?_map,hi];rfl
    have h2:(L.map (·.s))[j]?=some x.s:=by rw [List.getElem?_map,hj];exact congrArg some es
    have h3:=(List.getElem?_eq_some_iff.1 h1).1
    have h4:=(List.getElem?_eq_some_iff.1 h2).1
    have h5:=(List.getElem?_eq_some_iff.1 h1).2.trans (List.getElem?_eq_some_iff.1 h2).2.symm
    exact e ((List.getElem_inj hnd).1 h5)
   exact congrArg some (rest_ne (h _ hne))
structure Plcs (m:List (Int×Value)) (L:List Ln):Prop where
 nd:nodM m
 pl:placed m L
 ks:∀s,lkM m s≠none→∃x∈L,x.s=s
theorem Plcs.zero {m:List (Int×Value)} {L:List Ln} (h:Plcs m L) (h0:m.length=0) (n:Nat):bestI (leftOf m L) n=none:=by
 rw [bestI_none]
 intro i _
 have h1:=lenM_zero.1 h0
 cases hx:L[i]? with
 | none=>unfold leftOf;rw [List.getD_eq_getElem?_getD,List.getElem?_map,hx];rfl
 | some x=>rw [leftOf_get hx];unfold rest plc;rw [h1]
theorem Plcs.pos {m:List (Int×Value)} {L:List Ln} (h:Plcs m L) (hf:∀x∈L,fitN x) (h0:m.length≠0) :
  ∃i x p,bestI (leftOf m L) (leftOf m L).length=some (i,nx x.l p)∧bestV m L=(x,nx x.l p)∧L[i]?=some x∧lkM m x.s=some (.int .i64 (p:Int))∧p<x.n:=by
 have hll:(leftOf m L).length=L.length:=by unfold leftOf;simp
 rcases best_is h.pl hf L.length (Nat.le_refl _) with ⟨h1,_⟩ | h1
 ·exfalso
  apply h0
  rw [lenM_zero]
  intro s
  cases hs:lkM m s with
  | none=>rfl
  | some v=>
   obtain ⟨x,hx,rfl⟩:=h.ks s (by rw [hs];simp)
   obtain ⟨i,hi⟩:=List.getElem?_of_mem hx
   have h2:=bestI_none.1 h1 i (List.getElem?_eq_some_iff.1 hi).1
   rw [leftOf_get hi] at h2
   obtain ⟨p,rfl,hpn⟩:=h.pl x hx v hs
   have hlen:=hf x hx
   unfold fitN at hlen
   unfold rest at h2
   rw [plc_of hs] at h2
   have h3:(x.l.drop p).length=0:=by rw [show x.l.drop p=[] from h2];rfl
   rw [List.length_drop] at h3
   omega
 ·rw [hll]
  rw [List.take_length] at h1
  exact h1
theorem Plcs.gone {m:List (Int×Value)} {L:List Ln} (h:Plcs m L) (hnd:(L.map (·.s)).Nodup) {i:Nat} {x:Ln} (hi:L[i]?=some x):Plcs (delM m x.s) L∧leftOf (delM m x.s) L=(leftOf m L).set i []:=by
 refine ⟨⟨nodM_del h.nd _,fun y hy v hv=>?_,fun s hs=>?_⟩,leftOf_one hi hnd (fun s hs=>?_) ?_⟩
 ·rw [lkM_del h.nd] at hv
  split at hv
  ·cases hv
  ·exact h.pl y hy v hv
 ·rw [lkM_del h.nd] at hs
  split at hs
  ·exact absurd rfl hs
  ·exact h.ks s hs
 ·rw [lkM_del h.nd,if_neg (fun e=>hs e.symm)]
 ·unfold rest plc;rw [lkM_del h.nd,if_pos rfl]
theorem Plcs.on {m:List (Int×Value)} {L:List Ln} (h:Plcs m L) (hf:∀x∈L,fitN x) (hnd:(L.map (·.s)).Nodup) {i p:Nat} {x:Ln} (hi:L[i]?=some x) (hp:lkM m x.s=some (.int .i64 (p:Int))) (hpn:p<x.n) :
  Plcs (advM m x p) L∧leftOf (advM m x p) L=(leftOf m L).set i ((leftOf m L).getD i []).tail:=by
 have hxm:=List.mem_of_getElem? hi
 have hlen:=hf x hxm
 unfold fitN at hlen
 have hr:rest m x=x.l.drop p:=by unfold rest;rw [plc_of hp]
 rw [leftOf_get hi,hr,List.tail_drop]
 have hsame:∀y∈L,y.s=x.s→y=x:=fun y hy e=>by
  obtain ⟨j,hj⟩:=List.getElem?_of_mem hy
  have h1:(L.map (·.s))[i]?=some x.s:=by rw [List.getElem?_map,hi];rfl
  have h2:(L.map (·.s))[j]?=some x.s:=by rw [List.getElem?_map,hj];exact congrArg some e
  have h5:=(List.getElem?_eq_some_iff.1 h1).2.trans (List.getElem?_eq_some_iff.1 h2).2.symm
  have h6:=(List.getElem_inj hnd).1 h5
  subst h6
  rw [hi] at hj
  exact (Option.some.inj hj).symm
 have P1:Plcs (putM m x.s (.int .i64 (p+1:Nat))) L→True:=fun _=>trivial
 unfold advM
 split
 ·rename_i he
  have hn1:=nodM_put h.nd x.s (.int .i64 (p+1:Nat))
  refine ⟨⟨nodM_del hn1 _,fun y hy v hv=>?_,fun s hs=>?_⟩,leftOf_one hi hnd (fun s hs=>?_) ?_⟩
  ·rw [lkM_del hn1] at hv
   split at hv
   ·cases hv
   ·rename_i hne
    rw [lkM_put,if_neg hne] at hv
    exact h.pl y hy v hv
  ·rw [lkM_del hn1] at hs
   split at hs
   ·exact absurd rfl hs
   ·rename_i hne
    rw [lkM_put,if_neg hne] at hs
    exact h.ks s hs
  ·rw [lkM_del hn1,if_neg (fun e=>hs e.symm),lkM_put,if_neg (fun e=>hs e.symm)]
  ·unfold rest plc
   rw [lkM_del hn1,if_pos rfl]
   show []=x.l.drop (p+1)
   rw [List.drop_eq_nil_of_le (by omega)]
 ·rename_i he
  refine ⟨⟨nodM_put h.nd _ _,fun y hy v hv=>?_,fun s hs=>?_⟩,leftOf_one hi hnd (fun s hs=>?_) ?_⟩
  ·rw [lkM_put] at hv
   split at hv
   ·rename_i hys
    have:=hsame y hy hys.symm
    subst this
    cases hv
    exact ⟨p+1,rfl,by omega⟩
   ·exact h.pl y hy v hv
  ·rw [lkM_put] at hs
   split at hs
   ·rename_i e;exact ⟨x,hxm,e⟩
   ·exact h.ks s hs
  ·rw [lkM_put,if_neg (fun e=>hs e.symm)]
  ·unfold rest plc
   rw [lkM_put,if_pos rfl]
   rfl
theorem begM_spec (L:List Ln) (k:Nat):nodM (begM (L.take k))∧(∀s,lkM (begM (L.take k)) s=none∨lkM (begM (L.take k)) s=some (.int .i64 0))∧(∀s,lkM (begM (L.take k)) s≠none↔∃x∈L.take k,x.s=s∧0<x.n):=by
 induction k with
 | zero=>exact ⟨nodM_nil,fun _=>.inl rfl,fun s=>by simp [begM,lkM_nil]⟩
 | succ k ih=>
  cases hx:L[k]? with
  | none=>rw [List.take_add_one,hx];simpa using ih
  | some y=>
   rw [begM_take hx,List.take_add_one,hx]
   obtain ⟨h1,h2,h3⟩:=ih
   by_cases h0:0<y.n
   ·rw [if_pos h0]
    refine ⟨nodM_put h1 _ _,fun s=>?_,fun s=>?_⟩
    ·rw [lkM_put];split;exact .inr rfl;exact h2 s
    ·rw [lkM_put]
     constructor
     ·intro h
      split at h
      ·rename_i e;exact ⟨y,by simp,e,h0⟩
      ·obtain ⟨x,hx1,hx2⟩:=(h3 s).1 h;exact ⟨x,List.mem_append_left _ hx1,hx2⟩
     ·rintro ⟨x,hx1,hx2,hx3⟩
      split
      ·simp
      ·rename_i hne
       rcases List.mem_append.1 hx1 with hx1 | hx1
       ·exact (h3 s).2 ⟨x,hx1,hx2,hx3⟩
       ·simp at hx1;subst hx1;exact absurd hx2 hne
   ·rw [if_neg h0]
    refine ⟨h1,h2,fun s=>(h3 s).trans ⟨fun ⟨x,hx1,hx2⟩=>⟨x,List.mem_append_left _ hx1,hx2⟩,fun ⟨x,hx1,hx2,hx3⟩=>?_⟩⟩
    rcases List.mem_append.1 hx1 with hx1 | hx1
    ·exact ⟨x,hx1,hx2,hx3⟩
    ·simp at hx1;subst hx1;exact absurd hx3 h0
theorem begM_ok {L:List Ln} (hf:∀x∈L,fitN x) (hnd:(L.map (·.s)).Nodup):Plcs (begM L) L∧leftOf (begM L) L=L.map (·.l):=by
 obtain ⟨h1,h2,h3⟩:=begM_spec L L.length
 rw [List.take_length] at h1 h2 h3
 have hsame:∀x∈L,∀y∈L,y.s=x.s→y=x:=fun x hx y hy e=>by
  obtain ⟨i,hi⟩:=List.getElem?_of_mem hx
  obtain ⟨j,hj⟩:=List.getElem?_of_mem hy
  have h1:(L.map (·.s))[i]?=some x.s:=by rw [List.getElem?_map,hi];rfl
  have h2:(L.map (·.s))[j]?=some x.s:=by rw [List.getElem?_map,hj];exact congrArg some e
  have h5:=(List.getElem?_eq_some_iff.1 h1).2.trans (List.getElem?_eq_some_iff.1 h2).2.symm
  have h6:=(List.getElem_inj hnd).1 h5
  subst h6
  rw [hi] at hj
  exact (Option.some.inj hj).symm
 refine ⟨⟨h1,fun x hx v hv=>?_,fun s hs=>?_⟩,?_⟩
 ·rcases h2 x.s with h | h
  ·rw [h] at hv;cases hv
  ·rw [h] at hv;cases hv
   obtain ⟨y,hy,hys,hyn⟩:=(h3 x.s).1 (by rw [h];simp)
   have:=hsame x hx y hy hys
   subst this
   exact ⟨0,rfl,hyn⟩
 ·obtain ⟨y,hy,hys,_⟩:=(h3 s).1 hs
  exact ⟨y,hy,hys⟩
 ·unfold leftOf
  apply List.map_congr_left
  intro x hx
  unfold rest
  by_cases h0:0<x.n
  ·rcases h2 x.s with h | h
   ·exact absurd h ((h3 x.s).2 ⟨x,hx,rfl,h0⟩)
   ·rw [plc_of (p:=0) h];rfl
  ·have hnone:lkM (begM L) x.s=none:=by
    cases h:lkM (begM L) x.s with
    | none=>rfl
    | some v=>
     obtain ⟨y,hy,hys,hyn⟩:=(h3 x.s).1 (by rw [h];simp)
     have:=hsame x hx y hy hys
     subst this
     omega
   have hl:=hf x hx
   unfold fitN at hl
   have:x.l=[]:=List.eq_nil_of_length_eq_zero (by omega)
   unfold plc
   rw [hnone,this]
theorem frS_nodup {L:List Ac} (h:(L.map (·.s)).Nodup) (y:Ac):((frS L y).map (·.s)).Nodup:=by
 unfold frS
 split
 ·exact h
 ·rename_i hn
  rw [List.map_append,List.nodup_append]
  refine ⟨h,by simp,fun a ha b hb e=>?_⟩
  simp at hb
  subst hb
  subst e
  obtain ⟨x,hx,hxs⟩:=List.mem_map.1 ha
  exact hn (List.any_eq_true.2 ⟨x,hx,by simp [hxs]⟩)
theorem firstsV_nodup (L:List Ac):((firstsV L).map (·.s)).Nodup:=by
 unfold firstsV
 have:∀(l acc:List Ac),(acc.map (·.s)).Nodup→((l.foldl frS acc).map (·.s)).Nodup:=by
  intro l
  induction l with
  | nil=>exact fun _ h=>h
  | cons x l ih=>exact fun acc h=>ih _ (frS_nodup h x)
 exact this L [] (by simp)
theorem idx_before (p:Tx→Bool):∀(l:List Tx) (k:Nat) (j:Nat),idx p l k=(j:Int)→∀t∈l.take (j - k),p t=false
 | [],k,j,h,t,ht=>by simp at ht
 | x::l,k,j,h,t,ht=>by
  unfold idx at h
  split at h
  ·have:j=k:=by omega
   subst this
   simp at ht
  ·rename_i hx
   have hjk:k+1≤j:=by
    rcases idx_range p l (k+1) with hr | ⟨j',h1,h2,_⟩
    ·rw [hr] at h;omega
    ·rw [h1] at h;omega
   have hd:j - k=(j - (k+1))+1:=by clear h ht;omega
   rw [hd,List.take_succ_cons] at ht
   rcases List.mem_cons.1 ht with rfl | ht
   ·simpa using hx
   ·exact idx_before p l (k+1) j h t ht
theorem idx_none (p:Tx→Bool):∀(l:List Tx) (k:Nat),idx p l k<0→∀t∈l,p t=false
 | [],k,h,t,ht=>by simp at ht
 | x::l,k,h,t,ht=>by
  unfold idx at h
  split at h
  ·omega
  ·rename_i hx
   rcases List.mem_cons.1 ht with rfl | ht
   ·simpa using hx
   ·exact idx_none p l (k+1) h t ht
theorem lineV_ok {b:Int} {l:List Tx}:∀t∈lineV b l,t.ok=true:=by
 intro t ht
 unfold lineV lineR at ht
 have h:bad t=false:=by
  split at ht
  ·rename_i h;exact idx_none bad _ 0 h t ht
  ·rename_i h
   have h5:idx bad (readyV b l) 0=((idx bad (readyV b l) 0).toNat:Int):=by
    generalize idx bad (readyV b l) 0=z at *;omega
   refine idx_before bad (readyV b l) 0 (idx bad (readyV b l) 0).toNat h5 t ?_
   simpa using ht
 unfold bad at h
 simpa using h
def templateV (L:List Ac) (gas:Int):List Tx:=tplV ((firstsV L).map fun x=>lineV x.b x.l) gas
theorem lnP_l {Ls:List Ln} {L:List Ac} (h:Ls.map lnP=L.map lnOf):Ls.map (·.l)=L.map (fun x=>lineV x.b x.l)∧Ls.map (·.s)=L.map (·.s):=by
 have h1:=congrArg (List.map Prod.snd) h
 have h2:=congrArg (List.map Prod.fst) h
 rw [List.map_map,List.map_map] at h1 h2
 exact ⟨h1,h2⟩
theorem ok_gas {t:Tx} (h:t.ok=true):1≤t.g∧t.g≤1073741824:=by
 unfold Tx.ok at h
 simp at h
 omega
end Go.Proofs.YtdbjakibneeeiaaGreatDoor.greedy
namespace Go.Proofs.YtdbjakibneeeiaaGreatDoor.greedy
open Go.RowKit Sx txn queue
theorem cellsX_one (x:Tx):cellsL [x]=cellsX x:=by simp [cellsL]
section
variable {W : World} {G : Option Nat} {Q : Ending → World → Prop} {ds : List Deferred}
theorem meetLines {args:List Sx.T} {m:M} {k:Value→List Fact→Tree} {a:Option Addr} {n c:Nat} {L:List Ac} (hv:valsOf args=some [.slice a n c])
  (hC:∀β ρ w,Mem W G m β ρ w→Most w∧Acs w a n c L) (h1000:n≤1000000)
  (h:∀b cb Ls,Ls.map lnP=(firstsV L).map lnOf→(∀x∈Ls,Ln.fit x)→Sl b Ls.length cb→(∀φ∈rowF (pt b Ls.length) (cellsN Ls)::Ls.map lnF,∀g,φ.g=some g→W.heap.size≤g)→(k (.slice b Ls.length cb) (rowF (pt b Ls.length) (cellsN Ls)::Ls.map lnF)).wpD Tryz.prog W G Q ds):(Tree.call 174 args m k).wpD Tryz.prog W G Q ds:=
 meetR (ι:=One×List Ln) (ok:=fun i=>i.2.map lnP=(firstsV L).map lnOf∧(∀x∈i.2,Ln.fit x)∧Sl i.1.1 i.2.length i.1.2∧∀φ∈rowF (pt i.1.1 i.2.length) (cellsN i.2)::i.2.map lnF,∀g,φ.g=some g→W.heap.size≤g) (v:=fun i=>.slice i.1.1 i.2.length i.1.2) (fs:=fun i=>rowF (pt i.1.1 i.2.length) (cellsN i.2)::i.2.map lnF) (by kernel_rfl) (fun β ρ w vs hm hr=>by
  rw [valsOf_spec _ _ _ hv hr]
  obtain ⟨h1,h2⟩:=hC β ρ w hm
  refine (lines L a n c w h1 h2 h1000).mono fun e w' ⟨i,Ls,h3,h4,h5,h6⟩=>⟨(i,Ls),⟨h3,h4,h5,fun φ hφ g hg=>Nat.le_trans hm.grown.size (h6.2.2 φ hφ g hg).1⟩,h6⟩) (fun i hi=>h i.1.1 i.1.2 i.2 hi.1 hi.2.1 hi.2.2.1 hi.2.2.2)
end
end Go.Proofs.YtdbjakibneeeiaaGreatDoor.greedy
namespace Go.Proofs.YtdbjakibneeeiaaGreatDoor.greedy
open Go.RowKit Sx txn queue
theorem tplN_le:∀(f:Nat) (left:List (List Tx)) (gas:Int),(tplN f left gas).length≤sizeL left
 | 0,_,_=>Nat.zero_le _
 | f+1,left,gas=>by
  unfold tplN
  cases h:bestI left left.length with
  | none=>exact Nat.zero_le _
  | some q=>
   obtain ⟨_,r,hr⟩:=bestI_some h
   have h1:=size_nil hr
   have h2:=size_tail hr
   simp only []
   split
   ·have:=tplN_le f (left.set q.1 []) gas;omega
   ·have:=tplN_le f (left.set q.1 (left.getD q.1 []).tail) (gas - q.2.g)
    rw [List.length_cons];omega
theorem tplV_le (left:List (List Tx)) (gas:Int):(tplV left gas).length≤sizeL left:=tplN_le _ _ _
section
variable {W : World} {G : Option Nat} {Q : Ending → World → Prop} {ds : List Deferred}
theorem meetBeg {args:List Sx.T} {m:M} {k:Value→List Fact→Tree} {b:Option Addr} {cb:Nat} {Ls:List Ln} (hv:valsOf args=some [.slice b Ls.length cb]) (hs:Sl b Ls.length cb) (hm:rowF (pt b Ls.length) (cellsN Ls)∈m.facts)
  (h:∀g,W.heap.size≤g→(∀φ∈m.facts,φ.g≠some g)→(k (.map (some g)) [mapF g (begM Ls)]).wpD Tryz.prog W G Q ds):(Tree.call 175 args m k).wpD Tryz.prog W G Q ds:=
 meetR (ι:=Nat) (ok:=fun g=>W.heap.size≤g∧∀φ∈m.facts,φ.g≠some g) (v:=fun g=>.map (some g)) (fs:=fun g=>[mapF g (begM Ls)]) (by kernel_rfl) (fun β ρ w vs hM hr=>by
  rw [valsOf_spec _ _ _ hv hr]
  refine (beginnings Ls b Ls.length cb w hs rfl (hM.at_ hm)).mono fun e w' ⟨g,hg⟩=>⟨g,⟨?_,fun φ hφ hgφ=>?_⟩,hg⟩
  ·exact Nat.le_trans hM.grown.size (hg.2.2 _ (.head _) g rfl).1
  ·obtain ⟨o,ho,_⟩:=(hM.fact φ hφ g hgφ).2
   have h1:=(hg.2.2 _ (.head _) g rfl).1
   have h2:=(Array.getElem?_eq_some_iff.1 ho).1
   omega) (fun g hi=>h g hi.1 hi.2)
end
theorem template (L:List Ac) (gas:Int) (a:Option Addr) (n c:Nat) (w:World) (hM:Most w) (hA:Acs w a n c L) (h1000:n≤1000000) (hG : -9223372036854775808≤gas∧gas≤9223372036854775807) (hT:(templateV L gas).length≤1000000) :
  Calls Tryz.prog 145 (List.toArray [.slice a n c,.int .i64 gas]) w fun e w'=>∃i:One,Sl i.1 (templateV L gas).length i.2∧Gives w w' e (.slice i.1 (templateV L gas).length i.2) [rowF (pt i.1 (templateV L gas).length) (cellsL (templateV L gas))]:=by
 have hn:=hA.2.1
 refine calls_of_exec (env_ok.keeps.open_ [177] false) Tryz.func145 rfl [] (schedQ_ok _ _ (by kernel_rfl)) (acsF a n L) hA.facts ?_
 conv=>arg 5;whnf
 refine meetLines rfl (fun β ρ w' hM'=>⟨hM.later hM'.below,Mem.acs hA hM' fun φ hφ=>hφ⟩) h1000 (fun b cb Ls hL hfit hsl hfr=>?_)
 conv=>arg 5;whnf
 refine meetBeg rfl hsl (.head _) (fun g hg hgap=>?_)
 obtain ⟨hl1,hl2⟩:=lnP_l hL
 have hnd:(Ls.map (·.s)).Nodup:=by rw [hl2];exact firstsV_nodup L
 have hfn:∀x∈Ls,fitN x:=fun x hx=>(hfit x hx).2.1
 have hok:∀x∈Ls,∀t∈x.l,t.ok=true:=fun x hx t ht=>by
  have h1:x.l∈Ls.map (·.l):=List.mem_map.2 ⟨x,hx,rfl⟩
  rw [hl1] at h1
  obtain ⟨y,_,hy⟩:=List.mem_map.1 h1
  rw [← hy] at ht
  exact lineV_ok t ht
 obtain ⟨hp0,hb0⟩:=begM_ok hfn hnd
 have hT0:templateV L gas=tplV (leftOf (begM Ls) Ls) gas:=by unfold templateV;rw [hb0,hl1]
 have hgap:∀φ∈rowF (pt b Ls.length) (cellsN Ls)::(Ls.map lnF++acsF a n L),φ.g≠some g:=hgap
 conv=>arg 5;whnf
 refine loop_nil 7 26 6 rfl ?_
 refine loop_ruleE (env_ok.keeps.open_ [177] false) [] (schedQ_ok _ _ (by kernel_rfl)) [0,0,0] (fun q:List (Int×Value)×Int×List Tx=>Plcs q.1 Ls∧q.2.2++tplV (leftOf q.1 Ls) q.2.1=templateV L gas∧q.2.1≤gas∧(q.2.1=gas∨0≤q.2.1)) (fun q=>(⟨[],[some ⟨26,6,q.2.2.length,cellsL q.2.2⟩],mapF g q.1::rowF (pt b Ls.length) (cellsN Ls)::(Ls.map lnF++acsF a n L)⟩,[.any,.v (.int .i64 q.2.1),.any,.any,.any,.v (.slice b Ls.length cb),.v (.map (some g)),.r 0,.any,.any,.any,.any,.any,.any,.any,.any,.any,.any,.any,.any,.any,.any,.any,.any,.any,.any,.any,.any,.any,.any,.any,.any,.any,.any,.any,.any,.any,.any,.any,.any,.any,.any,.any,.any,.any,.any,.any])) (fun q=>sizeL (leftOf q.1 Ls)) (begM Ls,gas,[]) ⟨hp0,hT0.symm,Int.le_refl _,.inl rfl⟩ ⟨by repeat' first | exact trivial | refine ⟨.inl rfl,?_⟩ | refine ⟨.inr rfl,?_⟩,⟨by repeat' first | exact trivial | refine ⟨.inl rfl,?_⟩ | refine ⟨.inr rfl,?_⟩,by repeat' first | exact trivial | refine ⟨.inl rfl,?_⟩ | refine ⟨.inr rfl,?_⟩,fun _ h=>h⟩,rfl⟩ ?_
 rintro ⟨m,ga,out⟩ ⟨hP,hO,hga,hga0⟩
 have hP:Plcs m Ls:=hP
 have hO:out++tplV (leftOf m Ls) ga=templateV L gas:=hO
 have hga:ga≤gas:=hga
 have hga0:ga=gas∨0≤ga:=hga0
 conv=>arg 5;whnf
 refine peek_len Tryz.underlying222 (.head _) ?_
 conv=>arg 5;whnf
 refine wp_br (fun h1=>?_) (fun h1=>?_)
 ·have h0:m.length≠0:=by have h3:=of_decide_eq_true (show decide ((0:Int)<(m.length:Int))=true from h1);omega
  obtain ⟨i,x,p,hbi,hbv,hi,hlk,hpn⟩:=hP.pos hfn h0
  have hxm:=List.mem_of_getElem? hi
  obtain ⟨xs,xn,xd⟩:=hfit x hxm
  have hlen:p<x.l.length:=by omega
  have hmax:=xs.2.1
  have hxc:=xs.1
  have BV:=fun w hM hr hm hf=>best_ m g Ls b Ls.length cb w hM hsl rfl hr hm hf hP.pl
  rw [hbv] at BV
  have hz:=nx_get hlen
  have htm:=nx_mem hlen
  have htd:=xd _ htm
  obtain ⟨hg1,hg2⟩:=ok_gas (hok x hxm _ htm)
  have AD:=fun w hm=>advance m x p g w hm hlk hpn (by omega)
  obtain ⟨hPd,hld⟩:=hP.gone hnd hi
  obtain ⟨hPa,hla⟩:=hP.on hfn hnd hi hlk hpn
  have htp:=tplV_some (gas:=ga) hbi
  obtain ⟨_,r,hr⟩:=bestI_some hbi
  have hs1:=size_nil hr
  have hs2:=size_tail hr
  rw [← hla] at htp hs2
  rw [← hld] at htp hs1
  have hle:out.length<(templateV L gas).length∨ga<(nx x.l p).g:=by
   by_cases h:ga<(nx x.l p).g
   ·exact .inr h
   ·rw [htp,if_neg h] at hO
    rw [← hO,List.length_append,List.length_cons];left;omega
  generalize nx x.l p=t at *
  conv=>arg 5;whnf
  refine meetc (v:=.agg #[.int .i64 x.s,.slice x.a x.n x.c]) rfl (by kernel_rfl) (fun β ρ w' hM'=>BV w' (hM.later hM'.below) (hM'.at_ (.tail _ (.head _))) (hM'.fact _ (.head _) g rfl).2 (fun y hy=>⟨hfit y hy,hM'.at_ (.tail _ (.tail _ (List.mem_append_left _ (List.mem_map.2 ⟨y,hy,rfl⟩))))⟩)) ?_
  conv=>arg 5;whnf
  refine peek_lookup (z:=.int .i64 0) (l:=m) Tryz.underlying222 Tryz.underlying3 (fun w=>by kernel_rfl) (.head _) ?_
  rw [show (if false=true then Value.tuple #[(lkM m x.s).getD (.int .i64 0),.bool (lkM m x.s).isSome] else (lkM m x.s).getD (.int .i64 0))=.int .i64 (p:Int) by rw [hlk];rfl]
  conv=>arg 5;whnf
  refine wp_must ⟨by omega,by show (p:Int)<(x.n:Int);omega,xs.some hpn⟩ ?_
  conv=>arg 5;whnf
  refine readX (l:=x.l) (k:=p) (x:=t) rfl (.tail _ (.tail _ (List.mem_append_left _ (List.mem_map.2 ⟨x,hxm,rfl⟩)))) hpn (xs.some hpn) hz rfl ?_
  conv=>arg 5;whnf
  refine wp_br (fun h2=>?_) (fun h2=>?_)
  ·have h3:ga<t.g:=of_decide_eq_true h2
   rw [if_pos h3] at htp
   conv=>arg 5;whnf
   refine op_delete (g:=g) (l:=m) (x:=x.s) (mapF g (delM m x.s)::rowF (pt b Ls.length) (cellsN Ls)::(Ls.map lnF++acsF a n L)) rfl rfl rfl Tryz.underlying222 Tryz.underlying3 (.head _) (.inl hg) (fun ψ hψ=>(List.mem_cons.1 hψ).elim .inr fun hψ=>.inl ⟨.tail _ hψ,hgap ψ hψ⟩) ?_
   conv=>arg 5;whnf
   refine wp_end ⟨(delM m x.s,ga,out),⟨hPd,by show out++tplV (leftOf (delM m x.s) Ls) ga=templateV L gas;rw [← htp];exact hO,hga,hga0⟩,⟨by repeat' first | exact trivial | refine ⟨.inl rfl,?_⟩ | refine ⟨.inr rfl,?_⟩,⟨by repeat' first | exact trivial | refine ⟨.inl rfl,?_⟩ | refine ⟨.inr rfl,?_⟩,by repeat' first | exact trivial | refine ⟨.inl rfl,?_⟩ | refine ⟨.inr rfl,?_⟩,fun _ h=>h⟩,rfl⟩,hs1⟩
  ·have h3:¬ ga<t.g:=of_decide_eq_false h2
   rw [if_neg h3] at htp
   have hlt:out.length<(templateV L gas).length:=hle.resolve_right h3
   have ec:cellsL (out++[t])=cellsL out++cellsX t:=by rw [cellsL_append,cellsX_one]
   have el:(out++[t]).length=out.length+1:=by simp
   conv=>arg 5;whnf
   refine wp_must ⟨by show out.length+1≤maxLen;unfold maxLen;omega,by show (out.length+1)*56≤140737488355328;omega⟩ ?_
   conv=>arg 5;whnf
   refine wp_must ⟨by show -9223372036854775808≤ga - t.g;omega,by show ga - t.g≤9223372036854775807;omega⟩ ?_
   conv=>arg 5;whnf
   refine op_turn (g:=g) (φ:=mapF g m) rfl rfl (by kernel_rfl) (.head _) rfl (.inl hg) (fun F h=>by cases h) (fun β ρ w' hM'=>(AD w' (hM'.fact _ (.head _) g rfl).2).mono fun e w2 ⟨he,hgr,hb2⟩=>⟨_,mapF g (advM m x p)::rowF (pt b Ls.length) (cellsN Ls)::(Ls.map lnF++acsF a n L),he,hgr,(fun ψ hψ=>(List.mem_cons.1 hψ).elim (fun e=>by subst e;exact .inr ⟨rfl,hb2⟩) fun hψ=>.inl ⟨.tail _ hψ,hgap ψ hψ⟩),?_⟩)
   conv=>arg 5;whnf
   refine wp_end ⟨(advM m x p,ga - t.g,out++[t]),⟨hPa,by show (out++[t])++tplV (leftOf (advM m x p) Ls) (ga - t.g)=templateV L gas;rw [List.append_assoc,← hO,htp];rfl,by show ga - t.g≤gas;omega,.inr (by show 0≤ga - t.g;omega)⟩,⟨by repeat' first | exact trivial | refine ⟨.inl rfl,?_⟩ | refine ⟨.inr rfl,?_⟩,⟨by repeat' first | exact trivial | refine ⟨.inl rfl,?_⟩ | refine ⟨.inr rfl,?_⟩,by rw [ec,el];repeat' first | exact trivial | refine ⟨.inl rfl,?_⟩ | refine ⟨.inr rfl,?_⟩,fun _ h=>h⟩,rfl⟩,hs2⟩
 ·have h0:m.length=0:=by have h3:=of_decide_eq_false (show decide ((0:Int)<(m.length:Int))=false from h1);omega
  rw [tplV_none (hP.zero h0 _),List.append_nil] at hO
  subst hO
  conv=>arg 5;whnf
  refine wp_share fun u c_u h_u f_u=>?_
  conv=>arg 5;whnf
  refine wp_back fun β ρ w' hM'=>?_
  refine ⟨(u,c_u),h_u,rfl,hM'.below,fun φ hφ=>?_⟩
  simp only [List.mem_singleton] at hφ
  subst hφ
  exact giveF _ hM' (.head _) f_u
end Go.Proofs.YtdbjakibneeeiaaGreatDoor.greedy
namespace Go.Proofs.YtdbjakibneeeiaaGreatDoor.greedy
open Go.RowKit Sx txn queue
theorem cellsA_append (L:List Ac) (x:Ac):cellsA (L++[x])=cellsA L++x.cs:=by simp [cellsA]
end Go.Proofs.YtdbjakibneeeiaaGreatDoor.greedy
namespace Go.Proofs.YtdbjakibneeeiaaGreatDoor.greedy
open Go.RowKit Sx txn queue
def sameT (a b:Tx):Bool:=decide (a.s=b.s)&&decide (a.n=b.n)&&decide (a.t=b.t)&&decide (a.c=b.c)&&decide (a.g=b.g)&&decide (a.d.toList=b.d.toList)
def eqL:List Tx→List Tx→Bool
 | [],[]=>true
 | x::l,y::r=>sameT x y&&eqL l r
 | _,_=>false
def pre (m r:List Tx):Bool:=decide (m.length≤r.length)&&eqL m (r.take m.length)
end Go.Proofs.YtdbjakibneeeiaaGreatDoor.greedy
namespace Go.Proofs.YtdbjakibneeeiaaGreatDoor.greedy
open Go.RowKit Sx txn queue
theorem lineV_le (b:Int) (l:List Tx):(lineV b l).length≤l.length:=by
 unfold lineV lineR readyV
 split <;> simp [List.length_take] <;> omega
end Go.Proofs.YtdbjakibneeeiaaGreatDoor.greedy
