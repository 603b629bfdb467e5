/- Layer 11 (shard): lists in the order of a key. -/
import Derived.WalkKit
import Derived.Test.YtfhgkkcpkcjbmaaGreatDoorKGreedyAll
import Derived.Test.YtfhgkkcpkcjbmaaGreatDoorKShEnv
import Derived.Test.YtfhgkkcpkcjbmaaGreatDoorKTxnId
import Derived.Test.YtfhgkkcpkcjbmaaGreatDoorKMtHp
import Derived.Test.YtfhgkkcpkcjbmaaGreatDoorKSxMM
import Derived.Test.YtfhgkkcpkcjbmaaGreatDoorKFnvT
import Derived.Lib.Hide
import Derived.Test.YtfhgkkcpkcjbmaaGreatDoorKShP
set_option linter.all false
set_option maxHeartbeats 4000000
set_option maxRecDepth 100000
namespace Go.Proofs.YtfhgkkcpkcjbmaaGreatDoor.shard
section
variable {α β : Type}
def ins (f:α→Int) (x:α):List α→List α
 | []=>[x]
 | y::l=>if f x<f y then x::y::l else y::ins f x l
theorem ins_perm (f:α→Int) (x:α) (l:List α):(ins f x l).Perm (x::l):=by
 induction l with
 | nil=>exact List.Perm.refl _
 | cons y l ih=>
  unfold ins
  split
  ·exact List.Perm.refl _
  ·exact (ih.cons y).trans (List.Perm.swap x y l)
def ofK (f:α→Int) (k:Int) (l:List α):List α:=l.filter (fun x=>f x==k)
theorem ofK_none {f:α→Int} {k:Int} {l:List α} (h:∀x∈l,f x≠k):ofK f k l=[]:=by
 unfold ofK
 rw [List.filter_eq_nil_iff]
 intro x hx
 simpa using h x hx
theorem ofK_app (f:α→Int) (k:Int) (l r:List α):ofK f k (l++r)=ofK f k l++ofK f k r:=List.filter_append ..
theorem ofK_one (f:α→Int) (k:Int) (x:α):ofK f k [x]=if f x=k then [x] else []:=by
 unfold ofK
 by_cases h:f x=k <;> simp [h]
theorem ofK_mem {f:α→Int} {k:Int} {l:List α} {x:α} (h:x∈ofK f k l):x∈l∧f x=k:=by
 unfold ofK at h
 rw [List.mem_filter] at h
 exact ⟨h.1,by simpa using h.2⟩
end
end Go.Proofs.YtfhgkkcpkcjbmaaGreatDoor.shard
namespace Go.Proofs.YtfhgkkcpkcjbmaaGreatDoor.shard
open Go.RowKit Sx txn queue greedy
section
variable {E : Sx.Env} {P : Program} {W : World} {G : Option Nat} {Q : Ending → World → Prop} {ds : List Deferred}
theorem readG (hE:E.Ok P) {ty:TypeId} {ad:Option Addr} {xs vs:List Value} {k sz n:Nat} {m:M} {K:Value→Tree} {a:Addr} (hty:lk E.agg ty=some (some sz)) (hl:vs.length=sz) (hm:rowF (pt ad n) xs∈m.facts) (hk:k<n) (ha:ad.isSome=true)
  (hx:∀(j:Nat) (u:Value),vs[j]?=some u→xs[k*sz+j]?=some u) (haddr:a=(ad.getD ⟨0,0,none⟩).add (k*sz)) (h:(K (.agg vs.toArray)).wpD P W G Q ds):(Tree.load ty a m K).wpD P W G Q ds:=by
 rw [pt_pos hk] at hm
 refine ⟨.agg vs.toArray,fun β ρ w hM=>?_,h⟩
 cases ad with
 | none=>cases ha
 | some ad=>
  have:=hE.aggN ty sz hty a w vs hl (fun j u hu=>by
   have hc:=(hM.at_ hm).cell (hx j u hu)
   rw [haddr]
   simp only [Option.getD_some]
   obtain ⟨b,o,sp⟩:=ad
   unfold Addr.add at hc ⊢
   by_cases h1:k*sz=0 <;> by_cases h2:j=0 <;> simp_all [Nat.add_assoc])
  rw [this]
end
theorem copied (s b:Int) (l:List Tx) (a:Option Addr) (n c:Nat) (w:World) (hs:Sl a n c) (hn:n=l.length) (hrow:At w (pt a n) (cellsL l)) (hl:l.length≤1000000) :
  Calls Tryz.prog 182 (List.toArray [acc s b a n c]) w fun e w'=>∃i:One,Sl i.1 n i.2∧Gives w w' e (acc s b i.1 n i.2) [rowF (pt i.1 n) (cellsL l)]:=by
 refine calls_of_exec Sxs.env_ok.keeps Tryz.func182 rfl [] (schedQ_ok _ _ (by kernel_rfl)) [rowF (pt a n) (cellsL l)] (at1 hrow) ?_
 conv=>arg 5;whnf
 refine meetM n (cellsL l) rfl (by kernel_rfl) (fun β ρ w' hM'=>clone l a n c w' hs hn (hM'.at_ (.head _)) hl) ?_
 conv=>arg 5;whnf
 refine wp_share fun u c_u h_u f_u=>?_
 conv=>arg 5;whnf
 refine wp_back fun β ρ w' hM'=>⟨(u,c_u),h_u,rfl,hM'.below,fun φ hφ=>?_⟩
 simp only [List.mem_singleton] at hφ
 subst hφ
 exact giveF _ hM' (.head _) f_u
def emptyV (b:Int) (n:Nat):Bool:=decide (b≤0)&&decide (n=0)
theorem empty (s b:Int) (a:Option Addr) (n c:Nat) (w:World):Calls Tryz.prog 173 (List.toArray [acc s b a n c]) w fun e w'=>e=.returned (.bool (emptyV b n))∧Below w.heap.size w w':=by
 refine calls_of_exec Sxs.env_ok.keeps Tryz.func173 rfl [] (schedQ_ok _ _ (by kernel_rfl)) [] (by simp) ?_
 conv=>arg 5;whnf
 refine wp_g1 (fun h1=>?_) (fun h1=>?_)
 ·have h2:b≤0:=of_decide_eq_true h1
  have e:emptyV b n=((n:Int)==0):=by unfold emptyV;rw [decide_eq_true h2,Bool.true_and,Bool.eq_iff_iff,beq_iff_eq,decide_eq_true_eq];omega
  rw [e]
  conv=>arg 5;whnf
  exact wp_back fun β ρ w' hM'=>⟨rfl,hM'.below⟩
 ·have h2:¬ b≤0:=of_decide_eq_false h1
  have e:emptyV b n=false:=by unfold emptyV;rw [decide_eq_false h2];rfl
  rw [e]
  conv=>arg 5;whnf
  exact wp_back fun β ρ w' hM'=>⟨rfl,hM'.below⟩
def nextV (v:Int):Int:=if v<0∨1099511627776≤v then 0 else v+1
theorem next (v:Int) (w:World):Calls Tryz.prog 191 (List.toArray [.int .i64 v]) w fun e w'=>e=.returned (.int .i64 (nextV v))∧Below w.heap.size w w':=by
 refine calls_of_exec Sxs.env_ok.keeps Tryz.func191 rfl [] (schedQ_ok _ _ (by kernel_rfl)) [] (by simp) ?_
 conv=>arg 5;whnf
 refine wp_g0 (fun h1=>?_) (fun h1=>?_)
 ·have h2:¬ v<0:=of_decide_eq_false h1
  conv=>arg 5;whnf
  refine wp_br (fun h3=>?_) (fun h3=>?_)
  ·have h4:1099511627776≤v:=of_decide_eq_true h3
   have e:nextV v=0:=if_pos (.inr h4)
   rw [e]
   conv=>arg 5;whnf
   exact wp_back fun β ρ w' hM'=>⟨rfl,hM'.below⟩
  ·have h4:¬ 1099511627776≤v:=of_decide_eq_false h3
   have e:nextV v=v+1:=if_neg (by omega)
   rw [e]
   conv=>arg 5;whnf
   refine wp_must ⟨by omega,by omega⟩ ?_
   conv=>arg 5;whnf
   exact wp_back fun β ρ w' hM'=>⟨rfl,hM'.below⟩
 ·have h2:v<0:=of_decide_eq_true h1
  have e:nextV v=0:=if_pos (.inl h2)
  rw [e]
  conv=>arg 5;whnf
  exact wp_back fun β ρ w' hM'=>⟨rfl,hM'.below⟩
def slotsA (L:List Ac):Int:=(L.map fun x=>slotsL x.l).sum
theorem slotsA_take {L:List Ac} {k:Nat} {x:Ac} (h:L[k]?=some x):slotsA (L.take (k+1))=slotsA (L.take k)+slotsL x.l:=by unfold slotsA;rw [List.take_add_one,h];simp
def shV (a:Option Addr) (n c:Nat) (v:Int):Value:=.agg #[.slice a n c,.int .i64 v]
theorem slots (v:Int) (L:List Ac) (a:Option Addr) (n c:Nat) (w:World) (hM:Most w) (hA:Acs w a n c L) (h1000:n≤1000000) :
  Calls Tryz.prog 164 (List.toArray [shV a n c v]) w fun e w'=>e=.returned (.int .i64 (slotsA L))∧Below w.heap.size w w':=by
 have hs:=hA.1
 have hn:=hA.2.1
 have hn63:=hs.le
 refine calls_of_exec Sxs.env_ok.keeps Tryz.func164 rfl [] (schedQ_ok _ _ (by kernel_rfl)) (acsF a n L) hA.facts ?_
 conv=>arg 5;whnf
 refine loop_ruleE Sxs.env_ok.keeps [] (schedQ_ok _ _ (by kernel_rfl)) [1] (fun k:Nat=>k≤n∧0≤slotsA (L.take k)∧slotsA (L.take k)≤13000000*k) (fun k=>(⟨[some ([.v (.slice a n c),.v (.int .i64 v)],125)],[],acsF a n L⟩,[.any,.any,.any,.v (.int .i64 (slotsA (L.take k))),.any,.any,.any,.v (.slice a n c),.v (.int .i64 n),.v (.int .i64 k),.any,.any,.any,.any,.any,.any,.any,.any,.any])) (fun k=>n - k) 0 ⟨Nat.zero_le _,by unfold slotsA;simp,by unfold slotsA;simp⟩ ⟨by repeat' first | exact trivial | refine ⟨.inl rfl,?_⟩ | refine ⟨.inr rfl,?_⟩,⟨by repeat' first | exact trivial | refine ⟨.inl rfl,?_⟩ | refine ⟨.inr rfl,?_⟩,by repeat' first | exact trivial | refine ⟨.inl rfl,?_⟩ | refine ⟨.inr rfl,?_⟩,fun _ h=>h⟩,rfl⟩ ?_
 rintro k ⟨hk,hk0,hk1⟩
 conv=>arg 5;whnf
 refine wp_br (fun h1=>?_) (fun h1=>?_)
 ·have hlt:k<n:=by have h3:=of_decide_eq_true (show decide ((k:Int)<(n:Int))=true from h1);omega
  obtain ⟨x,hx1⟩:∃x,L[k]?=some x:=⟨_,List.getElem?_eq_getElem (by omega)⟩
  have hxm:x∈L:=List.mem_of_getElem? hx1
  obtain ⟨⟨xs,xn,xl,xd⟩,_⟩:=hA.2.2.2 x hxm
  have hst:=slotsA_take hx1
  have hb:=slotsL_bd x.l
  have SL:=fun w hM hr=>slots_ x.s x.b x.l x.a x.n x.c w hM xs xn hr xd (by omega)
  generalize slotsL x.l=sl at *
  conv=>arg 5;whnf
  refine wp_must ⟨by omega,by show (k:Int)<(n:Int);omega,hs.some hlt⟩ ?_
  conv=>arg 5;whnf
  refine readS (vs:=x.cs) (sz:=3) (k:=k) rfl rfl (.head _) hlt (hs.some hlt) (cellsA_at hx1) rfl ?_
  conv=>arg 5;whnf
  refine meetc (f:=210) (v:=.int .i64 sl) rfl (by kernel_rfl) (fun β ρ w' hM'=>SL w' (hM.later hM'.below) (hM'.at_ (.tail _ (List.mem_map.2 ⟨x,hxm,rfl⟩)))) ?_
  conv=>arg 5;whnf
  refine wp_must ⟨by omega,by omega⟩ ?_
  conv=>arg 5;whnf
  refine wp_must ⟨by show -9223372036854775808≤(k:Int)+1;omega,by show (k:Int)+1≤9223372036854775807;omega⟩ ?_
  conv=>arg 5;whnf
  rw [← hst]
  refine wp_end ⟨k+1,⟨hlt,by omega,by push_cast;omega⟩,⟨by repeat' first | exact trivial | refine ⟨.inl rfl,?_⟩ | refine ⟨.inr rfl,?_⟩,⟨by repeat' first | exact trivial | refine ⟨.inl rfl,?_⟩ | refine ⟨.inr rfl,?_⟩,by repeat' first | exact trivial | refine ⟨.inl rfl,?_⟩ | refine ⟨.inr rfl,?_⟩,fun _ h=>h⟩,rfl⟩,by show n - (k+1)<n - k;omega⟩
 ·have hkn:k=n:=by have h3:=of_decide_eq_false (show decide ((k:Int)<(n:Int))=false from h1);omega
  have e:L.take k=L:=List.take_of_length_le (by omega)
  rw [e]
  conv=>arg 5;whnf
  exact wp_back fun β ρ w' hM'=>⟨rfl,hM'.below⟩
end Go.Proofs.YtfhgkkcpkcjbmaaGreatDoor.shard
namespace Go.Proofs.YtfhgkkcpkcjbmaaGreatDoor.shard
open Go.RowKit Sx txn queue greedy
theorem cellsA_app (l r:List Ac):cellsA (l++r)=cellsA l++cellsA r:=by simp [cellsA]
theorem cellsA_one (l:List Ac):∀u∈cellsA l,u.oneCell'=true:=by
 intro u hu
 simp only [cellsA,List.mem_flatMap,Ac.cs] at hu
 obtain ⟨x,_,hx⟩:=hu
 simp at hx
 rcases hx with rfl | rfl | rfl <;> rfl
theorem cellsA_pos {l:List Ac} {j:Nat} {u:Value} (h:(cellsA l)[j]?=some u):0<l.length:=by
 cases l with
 | nil=>simp [cellsA] at h
 | cons x l=>simp
theorem growA (k:Nat) (w:World) (hk:k≤1000000) :
  Calls Tryz.prog 228 #[.slice none 0 0,.int .i64 k] w fun e w'=>∃v,e=.returned v∧Below w.heap.size w w'∧w'.ownsRow w.heap.size 47 3 v 0 []:=by
 refine calls_of_row (Env.Ok.howD Sxs.env_ok [(228,.fresh 47 3)]) Tryz.func228 rfl [] (by kernel_rfl) (n:=4) rfl [.v (.slice none 0 0),.v (.int .i64 k)] ⟨[],[],[]⟩ [] (mem_plain _ (by simp)) (Rels.vals [.slice none 0 0,.int .i64 k]) ?_
 refine wp_must ⟨by omega,by omega⟩ ?_
 refine wp_must ⟨by omega,by omega⟩ ?_
 refine wp_br (fun h2=>?_) (fun h2=>?_)
 ·refine wp_prim (.slice none 0 0) (fun w=>by simp [Instr.sliceAt,Instr.slice,run_underlying Tryz.underlying32,Sem.run_bind,go_sem]) ?_
  have h2:(0:Int)<(k:Int) - (0 - 0):=by simpa using h2
  refine wp_must ⟨h2,by omega,by omega⟩ ?_
  intro xs hx
  refine wp_must ⟨by omega,by omega⟩ ?_
  refine wp_end (fun β ρ w' v hM' hv=>⟨v,rfl,hM'.below,?_⟩)
  have:=hM'.mine (i:=0) (r:=⟨47,3,0,xs.take 0⟩) rfl hv
  simpa using this
 ·exact wp_back fun β ρ w' hM'=>⟨_,rfl,hM'.below,rfl,.inl ⟨rfl,rfl⟩⟩
structure PtA where
 a:Option Addr
 n:Nat
 c:Nat
 l:List Ac
def PtA.v (q:PtA):Value:=.slice q.a q.n q.c
def flatA (ps:List PtA):List Ac:=ps.flatMap PtA.l
theorem flatA_take (ps:List PtA) (k:Nat) (q:PtA) (h:ps[k]?=some q):flatA (ps.take (k+1))=flatA (ps.take k)++q.l:=by
 rw [List.take_add_one,h]
 simp [flatA]
theorem concatA (ps:List PtA) (A:Option Addr) (N C:Nat) (w:World) (hS:Sl A N C) (hN:N=ps.length) (hrow:At w A (ps.map PtA.v)) (hps:∀q∈ps,Sl q.a q.n q.c∧q.n=q.l.length∧At w (pt q.a q.n) (cellsA q.l)) (hl:(flatA ps).length≤1000000) :
  Calls Tryz.prog 190 #[.slice A N C] w fun e w'=>∃v,e=.returned v∧Below w.heap.size w w'∧w'.ownsRow w.heap.size 47 3 v (flatA ps).length (cellsA (flatA ps)):=by
 have hF:∀φ∈(rowF A (ps.map PtA.v)::ps.map (fun q=>rowF (pt q.a q.n) (cellsA q.l))),∀g,φ.g=some g→∃o,w.heap[g]?=some o∧φ.holds o:=by
  intro φ hφ
  rcases List.mem_cons.1 hφ with rfl | h
  ·exact hrow
  ·obtain ⟨q,hq,rfl⟩:=List.mem_map.1 h
   exact (hps q hq).2.2
 have hN63:=hS.le
 have hle:∀k,(flatA (ps.take k)).length≤1000000:=by
  intro k
  have e:flatA ps=flatA (ps.take k)++flatA (ps.drop k):=by unfold flatA;rw [← List.flatMap_append,List.take_append_drop]
  rw [e,List.length_append] at hl
  omega
 refine calls_of_row (Env.Ok.howD Sxs.env_ok [(228,.fresh 47 3)]) Tryz.func190 rfl [] (by kernel_rfl) (n:=2) rfl [.v (.slice A N C)] ⟨[],[],(rowF A (ps.map PtA.v)::ps.map (fun q=>rowF (pt q.a q.n) (cellsA q.l)))⟩ [] (mem_plain _ hF) (Rels.vals [.slice A N C]) ?_
 refine loop_rule (Env.Ok.howD Sxs.env_ok [(228,.fresh 47 3)]) [] (by kernel_rfl) (fun k:Nat=>k≤N) (fun k=>(⟨[],[],(rowF A (ps.map PtA.v)::ps.map (fun q=>rowF (pt q.a q.n) (cellsA q.l)))⟩,[.v (.slice A N C),.any,.v (.slice none 0 0),.v (.int .i64 ((flatA (ps.take k)).length:Nat)),.any,.any,.any,.any,.any,.v (.slice A N C),.v (.int .i64 N),.v (.int .i64 k),.any,.any,.any,.any,.any,.any,.any,.any,.any,.any,.any,.any,.any,.any,.any,.any,.any,.any,.any,.any,.any,.any,.any,.any])) (fun k=>N - k) 0 (Nat.zero_le _) ⟨by repeat' first | exact trivial | refine ⟨.inl rfl,?_⟩ | refine ⟨.inr rfl,?_⟩,⟨by repeat' first | exact trivial | refine ⟨.inl rfl,?_⟩ | refine ⟨.inr rfl,?_⟩,by repeat' first | exact trivial | refine ⟨.inl rfl,?_⟩ | refine ⟨.inr rfl,?_⟩,fun _ h=>h⟩,rfl⟩ ?_
 intro k hk
 refine wp_br (fun h1=>?_) (fun h1=>?_)
 ·have hlt:k<N:=by simp at h1;omega
  have hx:ps[k]?=some ps[k]:=List.getElem?_eq_getElem (by omega)
  have hq:=hps ps[k] (List.mem_of_getElem? hx)
  generalize ps[k]=q at hx hq
  obtain ⟨ad,rfl⟩:=Option.isSome_iff_exists.1 (hS.some hlt)
  refine wp_must ⟨by omega,by omega,rfl⟩ ?_
  refine readC (xs:=ps.map PtA.v) (j:=k) q.v rfl List.mem_cons_self (by rw [List.getElem?_map,hx];rfl) (by show ad.add (k*1)=ad.add k;rw [Nat.mul_one]) ?_
  have hl1:=congrArg List.length (flatA_take ps k q hx)
  rw [List.length_append,← hq.2.1] at hl1
  have hb1:=hle (k+1)
  refine wp_must ⟨by omega,by omega⟩ ?_
  refine wp_must ⟨by omega,by omega⟩ ?_
  refine wp_end ⟨k+1,hlt,⟨by rw [hl1];repeat' first | exact trivial | refine ⟨.inl rfl,?_⟩ | refine ⟨.inr rfl,?_⟩,⟨by repeat' first | exact trivial | refine ⟨.inl rfl,?_⟩ | refine ⟨.inr rfl,?_⟩,by repeat' first | exact trivial | refine ⟨.inl rfl,?_⟩ | refine ⟨.inr rfl,?_⟩,fun _ h=>h⟩,rfl⟩,by show N - (k+1)<N - k;omega⟩
 ·have hkN:k=N:=by simp at h1;omega
  have e1:ps.take k=ps:=List.take_of_length_le (by omega)
  refine ⟨by kernel_rfl,fun β ρ w' vs hM' hR=>?_⟩
  obtain rfl:=Rels.vals_eq (l:=[.slice none 0 0,.int .i64 ((flatA (ps.take k)).length:Nat)]) hR
  refine (growA _ w' (hle k)).mono ?_
  rintro e w'' ⟨v,rfl,hb,ho⟩
  refine ⟨v,0,[],rfl,hb,ho,?_⟩
  refine loop_rule (Env.Ok.howD Sxs.env_ok [(228,.fresh 47 3)]) [] (by kernel_rfl) (fun k:Nat=>k≤N) (fun k=>(⟨[],[some ⟨47,3,(flatA (ps.take k)).length,cellsA (flatA (ps.take k))⟩],(rowF A (ps.map PtA.v)::ps.map (fun q=>rowF (pt q.a q.n) (cellsA q.l)))⟩,[.v (.slice A N C),.any,.v (.slice none 0 0),.any,.any,.any,.r 0,.any,.any,.any,.any,.any,.any,.any,.any,.any,.any,.any,.any,.any,.any,.any,.any,.any,.any,.v (.slice A N C),.v (.int .i64 N),.v (.int .i64 k),.any,.any,.any,.any,.any,.any,.any,.any])) (fun k=>N - k) 0 (Nat.zero_le _) ⟨by repeat' first | exact trivial | refine ⟨.inl rfl,?_⟩ | refine ⟨.inr rfl,?_⟩,⟨by repeat' first | exact trivial | refine ⟨.inl rfl,?_⟩ | refine ⟨.inr rfl,?_⟩,by repeat' first | exact trivial | refine ⟨.inl rfl,?_⟩ | refine ⟨.inr rfl,?_⟩,fun _ h=>h⟩,rfl⟩ ?_
  intro k hk
  refine wp_br (fun h1=>?_) (fun h1=>?_)
  ·have hlt:k<N:=by simp at h1;omega
   have hx:ps[k]?=some ps[k]:=List.getElem?_eq_getElem (by omega)
   have hm:=List.mem_of_getElem? hx
   have hq:=hps ps[k] hm
   generalize ps[k]=q at hx hq hm
   obtain ⟨ad,rfl⟩:=Option.isSome_iff_exists.1 (hS.some hlt)
   refine wp_must ⟨by omega,by omega,rfl⟩ ?_
   refine readC (xs:=ps.map PtA.v) (j:=k) q.v rfl List.mem_cons_self (by rw [List.getElem?_map,hx];rfl) (by show ad.add (k*1)=ad.add k;rw [Nat.mul_one]) ?_
   have hc1:cellsA (flatA (ps.take (k+1)))=cellsA (flatA (ps.take k))++cellsA q.l:=by rw [flatA_take ps k q hx,cellsA_app]
   have hl1:=congrArg List.length (flatA_take ps k q hx)
   rw [List.length_append,← hq.2.1] at hl1
   have hb1:=hle (k+1)
   refine ⟨cellsA q.l,by rw [cellsA_length,hq.2.1],cellsA_one q.l,fun β ρ w' hM' ad' had j u hu=>?_,?_⟩
   ·have hmem:rowF (pt q.a q.n) (cellsA q.l)∈(rowF (some ad) (ps.map PtA.v)::ps.map (fun q=>rowF (pt q.a q.n) (cellsA q.l))):=List.mem_cons_of_mem _ (List.mem_map.2 ⟨q,hm,rfl⟩)
    rw [had,pt_pos (k:=0) (by have:=cellsA_pos hu;have:=hq.2.1;omega)] at hmem
    exact (hM'.at_ hmem).cell hu
   ·refine wp_must ⟨by show (flatA (ps.take k)).length+q.n≤maxLen;unfold maxLen;omega,by show ((flatA (ps.take k)).length+q.n)*40≤140737488355328;omega,fun ha=>hq.1.2.2 ha⟩ ?_
    refine wp_must ⟨by omega,by omega⟩ ?_
    refine wp_end ⟨k+1,hlt,⟨by repeat' first | exact trivial | refine ⟨.inl rfl,?_⟩ | refine ⟨.inr rfl,?_⟩,⟨by repeat' first | exact trivial | refine ⟨.inl rfl,?_⟩ | refine ⟨.inr rfl,?_⟩,by rw [hc1,hl1];repeat' first | exact trivial | refine ⟨.inl rfl,?_⟩ | refine ⟨.inr rfl,?_⟩,fun _ h=>h⟩,rfl⟩,by show N - (k+1)<N - k;omega⟩
  ·have hkN:k=N:=by simp at h1;omega
   have e1:ps.take k=ps:=List.take_of_length_le (by omega)
   refine wp_end (fun β ρ w' v hM' hv=>⟨v,rfl,hM'.below,?_⟩)
   have:=hM'.mine (i:=0) (r:=⟨47,3,(flatA (ps.take k)).length,cellsA (flatA (ps.take k))⟩) rfl hv
   rw [e1] at this
   exact this
end Go.Proofs.YtfhgkkcpkcjbmaaGreatDoor.shard
namespace Go.Proofs.YtfhgkkcpkcjbmaaGreatDoor.shard
open Go.RowKit Sx txn queue greedy
def lastL (l:List Tx):List Tx:=l.drop (l.length - 1)
theorem lastL_nil {l:List Tx} (h:l.length=0):lastL l=[]:=by rw [List.eq_nil_of_length_eq_zero h];rfl
theorem lastL_pos {l:List Tx} (h:0<l.length):lastL l=[nx l (l.length - 1)]:=by
 unfold lastL
 have h1:l.length - 1<l.length:=by omega
 rw [List.drop_eq_getElem_cons h1,List.drop_eq_nil_of_le (by omega)]
 have:=nx_get h1
 rw [List.getElem?_eq_getElem h1] at this
 rw [Option.some.inj this]
def lastsP (P:List (List Tx)):List Tx:=P.flatMap lastL
def lastsV (L:List Ac):List Tx:=lastsP (L.map (·.l))
theorem lastsP_take {P:List (List Tx)} {k:Nat} {x:List Tx} (h:P[k]?=some x):lastsP (P.take (k+1))=lastsP (P.take k)++lastL x:=by unfold lastsP;rw [List.take_add_one,h,List.flatMap_append];simp
theorem lastL_le (l:List Tx):(lastL l).length≤1:=by unfold lastL;rw [List.length_drop];omega
theorem lastsP_le (P:List (List Tx)):(lastsP P).length≤P.length:=by
 induction P with
 | nil=>simp [lastsP]
 | cons x P ih=>unfold lastsP at *;rw [List.flatMap_cons,List.length_append,List.length_cons];have:=lastL_le x;omega
theorem lastsV_le (L:List Ac):(lastsV L).length≤L.length:=by have:=lastsP_le (L.map (·.l));rw [List.length_map] at this;exact this
theorem lastsV_mem {L:List Ac} {t:Tx} (h:t∈lastsV L):∃x∈L,t∈x.l:=by
 unfold lastsV lastsP at h
 obtain ⟨r,hr,ht⟩:=List.mem_flatMap.1 h
 obtain ⟨x,hx,rfl⟩:=List.mem_map.1 hr
 exact ⟨x,hx,List.mem_of_mem_drop ht⟩
theorem lasts (L:List Ac) (a:Option Addr) (n c:Nat) (w:World) (hA:Acs w a n c L) (h1000:n≤1000000) :
  Calls Tryz.prog 177 (List.toArray [.slice a n c]) w fun e w'=>∃i:One,Sl i.1 (lastsV L).length i.2∧Gives w w' e (.slice i.1 (lastsV L).length i.2) [rowF (pt i.1 (lastsV L).length) (cellsL (lastsV L))]:=by
 have hs:=hA.1
 have hn:=hA.2.1
 have hn63:=hs.le
 refine calls_of_exec Sxs.env_ok.keeps Tryz.func177 rfl [] (schedQ_ok _ _ (by kernel_rfl)) (acsF a n L) hA.facts ?_
 conv=>arg 5;whnf
 refine loop_nil 3 38 6 rfl ?_
 refine loop_ruleE Sxs.env_ok.keeps [] (schedQ_ok _ _ (by kernel_rfl)) [0,0] (fun k:Nat=>k≤n) (fun k=>(⟨[],[some ⟨38,6,(lastsP ((L.map (·.l)).take k)).length,cellsL (lastsP ((L.map (·.l)).take k))⟩],acsF a n L⟩,[.any,.any,.any,.r 0,.any,.any,.any,.v (.slice a n c),.v (.int .i64 n),.v (.int .i64 k),.any,.any,.any,.any,.any,.any,.any,.any,.any,.any,.any,.any,.any,.any,.any,.any,.any,.any,.any])) (fun k=>n - k) 0 (Nat.zero_le _) ⟨by repeat' first | exact trivial | refine ⟨.inl rfl,?_⟩ | refine ⟨.inr rfl,?_⟩,⟨by repeat' first | exact trivial | refine ⟨.inl rfl,?_⟩ | refine ⟨.inr rfl,?_⟩,by repeat' first | exact trivial | refine ⟨.inl rfl,?_⟩ | refine ⟨.inr rfl,?_⟩,fun _ h=>h⟩,rfl⟩ ?_
 intro k hk
 conv=>arg 5;whnf
 refine wp_br (fun h1=>?_) (fun h1=>?_)
 ·have hlt:k<n:=by have h3:=of_decide_eq_true (show decide ((k:Int)<(n:Int))=true from h1);omega
  obtain ⟨x,hx⟩:∃x,L[k]?=some x:=⟨_,List.getElem?_eq_getElem (by omega)⟩
  have hxm:x∈L:=List.mem_of_getElem? hx
  obtain ⟨⟨xs,xn,xl,xd⟩,_⟩:=hA.2.2.2 x hxm
  have ht:=lastsP_take (P:=L.map (·.l)) (k:=k) (x:=x.l) (by rw [List.getElem?_map,hx];rfl)
  have hle:=lastsP_le ((L.map (·.l)).take k)
  rw [List.length_take] at hle
  conv=>arg 5;whnf
  refine wp_must ⟨by omega,by show (k:Int)<(n:Int);omega,hs.some hlt⟩ ?_
  conv=>arg 5;whnf
  refine readS (vs:=x.cs) (sz:=3) (k:=k) rfl rfl (.head _) hlt (hs.some hlt) (cellsA_at hx) rfl ?_
  conv=>arg 5;whnf
  refine wp_br (fun h2=>?_) (fun h2=>?_)
  ·have h0:0<x.n:=by have h3:=of_decide_eq_true (show decide ((0:Int)<(x.n:Int))=true from h2);omega
   have hlast:=lastL_pos (l:=x.l) (by omega)
   have hz:=nx_get (l:=x.l) (i:=x.l.length - 1) (by omega)
   rw [hlast] at ht
   generalize nx x.l (x.l.length - 1)=t at *
   have ec:cellsL (lastsP ((L.map (·.l)).take (k+1)))=cellsL (lastsP ((L.map (·.l)).take k))++cellsX t:=by rw [ht,cellsL_append,cellsX_one]
   have el:(lastsP ((L.map (·.l)).take (k+1))).length=(lastsP ((L.map (·.l)).take k)).length+1:=by rw [ht];simp
   have hxn63:=xs.le
   conv=>arg 5;whnf
   refine wp_must ⟨by show -9223372036854775808≤(x.n:Int) - 1;omega,by show (x.n:Int) - 1≤9223372036854775807;omega⟩ ?_
   conv=>arg 5;whnf
   refine wp_must ⟨by omega,by show (x.n:Int) - 1<(x.n:Int);omega,xs.some h0⟩ ?_
   conv=>arg 5;whnf
   refine readX (l:=x.l) (k:=x.l.length - 1) (x:=t) rfl (.tail _ (List.mem_map.2 ⟨x,hxm,rfl⟩)) (by omega) (xs.some h0) hz (by rw [show ((x.n:Int) - 1).toNat=x.l.length - 1 by omega]) ?_
   conv=>arg 5;whnf
   refine wp_must ⟨by show (lastsP ((L.map (·.l)).take k)).length+1≤maxLen;unfold maxLen;omega,by show ((lastsP ((L.map (·.l)).take k)).length+1)*56≤140737488355328;omega⟩ ?_
   conv=>arg 5;whnf
   refine wp_must ⟨by show -9223372036854775808≤(k:Int)+1;omega,by show (k:Int)+1≤9223372036854775807;omega⟩ ?_
   conv=>arg 5;whnf
   refine wp_end ⟨k+1,hlt,⟨by repeat' first | exact trivial | refine ⟨.inl rfl,?_⟩ | refine ⟨.inr rfl,?_⟩,⟨by repeat' first | exact trivial | refine ⟨.inl rfl,?_⟩ | refine ⟨.inr rfl,?_⟩,by rw [ec,el];repeat' first | exact trivial | refine ⟨.inl rfl,?_⟩ | refine ⟨.inr rfl,?_⟩,fun _ h=>h⟩,rfl⟩,by show n - (k+1)<n - k;omega⟩
  ·have h0:x.l.length=0:=by have h3:=of_decide_eq_false (show decide ((0:Int)<(x.n:Int))=false from h2);omega
   rw [lastL_nil h0,List.append_nil] at ht
   conv=>arg 5;whnf
   refine wp_must ⟨by show -9223372036854775808≤(k:Int)+1;omega,by show (k:Int)+1≤9223372036854775807;omega⟩ ?_
   conv=>arg 5;whnf
   refine wp_end ⟨k+1,hlt,⟨by repeat' first | exact trivial | refine ⟨.inl rfl,?_⟩ | refine ⟨.inr rfl,?_⟩,⟨by repeat' first | exact trivial | refine ⟨.inl rfl,?_⟩ | refine ⟨.inr rfl,?_⟩,by rw [ht];repeat' first | exact trivial | refine ⟨.inl rfl,?_⟩ | refine ⟨.inr rfl,?_⟩,fun _ h=>h⟩,rfl⟩,by show n - (k+1)<n - k;omega⟩
 ·have hkn:k=n:=by have h3:=of_decide_eq_false (show decide ((k:Int)<(n:Int))=false from h1);omega
  have e:(L.map (·.l)).take k=L.map (·.l):=List.take_of_length_le (by rw [List.length_map];omega)
  rw [← show lastsP ((L.map (·.l)).take k)=lastsV L from by rw [e];rfl]
  conv=>arg 5;whnf
  refine wp_share fun u c_u h_u f_u=>?_
  conv=>arg 5;whnf
  refine wp_back fun β ρ w' hM'=>⟨(u,c_u),h_u,rfl,hM'.below,fun φ hφ=>?_⟩
  simp only [List.mem_singleton] at hφ
  subst hφ
  exact giveF _ hM' (.head _) f_u
def worstV (L:List Ac):Tx×Bool:=if 0<(lastsV L).length then (nx (lastsV L) (heap.worstTo (lastsV L) (lastsV L).length),true) else (tz,false)
theorem worst (L:List Ac) (a:Option Addr) (n c:Nat) (w:World) (hM:Most w) (hA:Acs w a n c L) (h1000:n≤100000) :
  Calls Tryz.prog 123 (List.toArray [.slice a n c]) w fun e w'=>e=.returned (.tuple #[(worstV L).1.val,.bool (worstV L).2])∧Below w.heap.size w w':=by
 have hn:=hA.2.1
 have hle:=lastsV_le L
 have hd:∀t∈lastsV L,t.d.size≤maxLen:=fun t ht=>by obtain ⟨x,hx,htx⟩:=lastsV_mem ht;exact (hA.2.2.2 x hx).1.2.2.2 t htx
 have LS:=fun w hA=>lasts L a n c w hA (by omega)
 have hwl:=heap.worstTo_lt (lastsV L) (lastsV L).length
 have hwv:worstV L=if 0<(lastsV L).length then (nx (lastsV L) (heap.worstTo (lastsV L) (lastsV L).length),true) else (tz,false):=rfl
 rw [hwv]
 generalize lastsV L=l at *
 have HW:=fun q cq w hM hs hr=>heap.worst_ l q l.length cq w hM hs rfl (by omega) hd hr
 refine calls_of_exec Sxs.env_ok.keeps Tryz.func123 rfl [] (schedQ_ok _ _ (by kernel_rfl)) (acsF a n L) hA.facts ?_
 conv=>arg 5;whnf
 refine meet1F (f:=177) (n:=l.length) (v:=fun a1 c1=>.slice a1 l.length c1) (xs:=cellsL l) rfl (by kernel_rfl) (fun β ρ w' hM'=>LS w' (Mem.acs hA hM' fun φ hφ=>hφ)) (fun q c_q h_q f_q=>?_)
 by_cases h0:0<l.length
 ·rw [if_pos h0]
  rw [decide_eq_true h0] at HW
  have hz:=nx_get (l:=l) (i:=heap.worstTo l l.length) (by omega)
  generalize heap.worstTo l l.length=k at *
  have hk:k<l.length:=by omega
  generalize nx l k=t at *
  conv=>arg 5;whnf
  refine meetc (f:=178) (v:=.tuple #[.int .i64 (k:Nat),.bool true]) rfl (by kernel_rfl) (fun β ρ w' hM'=>HW q c_q w' (hM.later hM'.below) h_q (hM'.at_ (.head _))) ?_
  conv=>arg 5;whnf
  refine wp_must ⟨by omega,by show (k:Int)<(l.length:Int);omega,h_q.some hk⟩ ?_
  conv=>arg 5;whnf
  refine readX (l:=l) (k:=k) (x:=t) rfl (.head _) hk (h_q.some hk) hz rfl ?_
  conv=>arg 5;whnf
  exact wp_back fun β ρ w' hM'=>⟨rfl,hM'.below⟩
 ·rw [if_neg h0]
  rw [decide_eq_false h0] at HW
  generalize heap.worstTo l l.length=k at *
  conv=>arg 5;whnf
  refine meetc (f:=178) (v:=.tuple #[.int .i64 (k:Nat),.bool false]) rfl (by kernel_rfl) (fun β ρ w' hM'=>HW q c_q w' (hM.later hM'.below) h_q (hM'.at_ (.head _))) ?_
  conv=>arg 5;whnf
  exact wp_back fun β ρ w' hM'=>⟨rfl,hM'.below⟩
end Go.Proofs.YtfhgkkcpkcjbmaaGreatDoor.shard
namespace Go.Proofs.YtfhgkkcpkcjbmaaGreatDoor.shard
open Go.RowKit Sx txn queue greedy
theorem at_any {w:World} {a:Option Addr} {xs:List Value} (n:Nat) (h:At w a xs):At w (pt a n) xs:=by
 unfold Sx.pt
 split
 ·exact fun g hg=>by cases hg
 ·exact h
theorem flatA_pair (A B:List Ac) (p q:Option Addr) (n m c d:Nat) : [(⟨p,n,c,A⟩:PtA),⟨q,m,d,B⟩].flatMap PtA.l=A++B:=by simp
theorem meetO {P:Program} {W:World} {Q:Ending→World→Prop} {ds:List Deferred} {f:FuncId} {args:List T} {e:TypeId} {size:Nat} {m:M} {k:Value→List Fact→Tree} {l:List Value} (n:Nat) (ys:List Value) (hv:valsOf args=some l) (hc:callable P f=true)
  (hC:∀β ρ w,Mem W none m β ρ w→Calls P f (List.toArray l) w fun e' w'=>∃v,e'=.returned v∧Below w.heap.size w w'∧w'.ownsRow w.heap.size e size v n ys)
  (h:∀a c,Sl a n c→Fresh W none a→(k (.slice a n c) [rowF (pt a n) ys]).wpD P W none Q ds):(Tree.call f args m k).wpD P W none Q ds:=
 ⟨hc,fun β ρ w vs hm hr=>by
  rw [valsOf_spec _ _ _ hv hr]
  refine (hC β ρ w hm).mono fun e' w' ⟨v,he,hb,ho⟩=>?_
  obtain ⟨a,c,rfl,hsl,hfr,hat⟩:=own_row ho
  have hWw:=hm.below.size
  refine ⟨_,[rowF (pt a n) ys],he,hb,?_,h a c hsl fun ad had=>.inl (Nat.le_trans hWw (hfr ad had))⟩
  intro φ hφ g hg
  simp only [List.mem_singleton] at hφ
  subst hφ
  refine ⟨.inr (.inl ?_),hat g hg⟩
  by_cases h0:n=0
  ·rw [show pt a n=none from if_pos h0] at hg
   cases hg
  ·rw [show pt a n=a from if_neg h0] at hg
   cases a with
   | none=>cases hg
   | some ad=>cases hg;exact hfr ad rfl⟩
theorem giveO {W:World} {m:M} {β ρ} {w':World} {a:Option Addr} {xs:List Value} (n:Nat) (hM:Mem W none m β ρ w') (hm:rowF (pt a n) xs∈m.facts) (hf:Fresh W none a) :
  ∀g,(rowF (pt a n) xs).g=some g→W.heap.size≤g∧∃o,w'.heap[g]?=some o∧(rowF (pt a n) xs).holds o:=fun g hg=>by
 refine ⟨?_,hM.at_ hm g hg⟩
 by_cases h:n=0
 ·rw [show pt a n=none from if_pos h] at hg
  cases hg
 ·rw [show pt a n=a from if_neg h] at hg
  cases a with
  | none=>cases hg
  | some ad=>
   cases hg
   rcases hf ad rfl with h1 | h1
   ·exact h1
   ·cases h1
abbrev PA:=Int×Int×List Tx
def acP (x:Ac):PA:=(x.s,x.b,x.l)
def setS (a:PA) (st:List PA×List PA) (x:PA):List PA×List PA:=if x.1=a.1 then st else if st.2≠[]∨a.1<x.1 then (st.1,st.2++[x]) else (st.1++[x],st.2)
def setF (L:List PA) (a:PA):List PA×List PA:=L.foldl (setS a) ([],[])
def setP (L:List PA) (a:PA):List PA:=(setF L a).1++(if emptyV a.2.1 a.2.2.length then [] else [a])++(setF L a).2
theorem setF_take {L:List PA} {a:PA} {k:Nat} {x:PA} (h:L[k]?=some x):setF (L.take (k+1)) a=setS a (setF (L.take k) a) x:=by unfold setF;rw [List.take_add_one,h,List.foldl_append];rfl
theorem setF_le (L:List PA) (a:PA) (k:Nat):(setF (L.take k) a).1.length+(setF (L.take k) a).2.length≤k:=by
 induction k with
 | zero=>simp [setF]
 | succ k ih=>
  cases h:L[k]? with
  | none=>rw [List.take_add_one,h];simp;omega
  | some x=>
   rw [setF_take h]
   unfold setS
   split
   ·omega
   ·split <;> (rw [List.length_append];simp;omega)
theorem setS_same {a:PA} {st:List PA×List PA} {x:PA} (h:x.1=a.1):setS a st x=st:=if_pos h
theorem setS_beh {a:PA} {st:List PA×List PA} {x:PA} (h:¬ x.1=a.1) (h2:st.2≠[]∨a.1<x.1):setS a st x=(st.1,st.2++[x]):=(if_neg h).trans (if_pos h2)
theorem setS_ahe {a:PA} {st:List PA×List PA} {x:PA} (h:¬ x.1=a.1) (h2:¬ (st.2≠[]∨a.1<x.1)):setS a st x=(st.1++[x],st.2):=(if_neg h).trans (if_neg h2)
theorem acP_app (X:List Ac) (x:Ac) (y:Option Addr) (cy:Nat):(X++[(⟨x.s,x.b,y,x.n,cy,x.l⟩:Ac)]).map acP=X.map acP++[acP x]:=by rw [List.map_append];rfl
theorem set (v:Int) (L:List Ac) (a:Option Addr) (n c:Nat) (s b:Int) (l:List Tx) (a0:Option Addr) (n0 c0:Nat) (w:World) (hA:Acs w a n c L) (h1000:n≤100000) (hs0:Sl a0 n0 c0) (hn0:n0=l.length) (hl0:l.length≤1000000) (hd0:∀t∈l,t.d.size≤maxLen) (hrow0:At w (pt a0 n0) (cellsL l)) :
  Calls Tryz.prog 129 (List.toArray [shV a n c v,acc s b a0 n0 c0]) w fun e w'=>∃(i:One) (Ls:List Ac),Ls.map acP=setP (L.map acP) (s,b,l)∧(∀x∈Ls,x.fit)∧Sl i.1 Ls.length i.2∧Gives w w' e (shV i.1 Ls.length i.2 (nextV v)) (acsF i.1 Ls.length Ls):=by
 have hs:=hA.1
 have hn:=hA.2.1
 have hn63:=hs.le
 refine calls_of_exec Sxs.env_ok.keeps Tryz.func129 rfl [(12,(line [0,1,4,5,2,3,6,7,8],[2]))] (schedQ_ok _ _ (by kernel_rfl)) (rowF (pt a0 n0) (cellsL l)::acsF a n L) (fun φ hφ g hg=>(List.mem_cons.1 hφ).elim (fun e=>by subst e;exact hrow0 g hg) fun hφ=>hA.facts φ hφ g hg) ?_
 conv=>arg 5;whnf
 refine loop_nil 5 47 3 rfl ?_
 refine loop_nil 6 47 3 rfl ?_
 refine loop_ruleE Sxs.env_ok.keeps [(12,(line [0,1,4,5,2,3,6,7,8],[2]))] (schedQ_ok _ _ (by kernel_rfl)) [3,3] (fun q:Nat×List Ac×List Ac=>q.1≤n∧(q.2.1.map acP,q.2.2.map acP)=setF ((L.map acP).take q.1) (s,b,l)∧(∀x∈q.2.1++q.2.2,x.fit)∧∀φ∈q.2.1.map acF++q.2.2.map acF,∀g,φ.g=some g→w.heap.size≤g) (fun q=>(⟨[some ([.v (.slice a n c),.v (.int .i64 v)],125),some ([.v (.int .i64 s),.v (.int .i64 b),.v (.slice a0 n0 c0)],47),some ([.v (.slice none 0 0),.v (.int .i64 0)],125)],[some ⟨47,3,q.2.1.length,cellsA q.2.1⟩,some ⟨47,3,q.2.2.length,cellsA q.2.2⟩],rowF (pt a0 n0) (cellsL l)::((q.2.1.map acF++q.2.2.map acF)++acsF a n L)⟩,[.any,.any,.p 0 0,.p 1 0,.p 2 0,.r 0,.r 1,.any,.any,.any,.v (.slice a n c),.v (.int .i64 n),.v (.int .i64 q.1),.any,.any,.any,.any,.any,.any,.any,.any,.any,.any,.any,.any,.any,.any,.any,.any,.any,.any,.any,.any,.any,.any,.any,.any,.any,.any,.any,.any,.any,.any,.any,.any,.any,.any,.any,.any,.any,.any,.any,.any,.any,.any,.any,.any,.any])) (fun q=>n - q.1) (0,[],[]) ⟨Nat.zero_le _,rfl,by simp,by simp⟩ ⟨by repeat' first | exact trivial | refine ⟨.inl rfl,?_⟩ | refine ⟨.inr rfl,?_⟩,⟨by repeat' first | exact trivial | refine ⟨.inl rfl,?_⟩ | refine ⟨.inr rfl,?_⟩,by repeat' first | exact trivial | refine ⟨.inl rfl,?_⟩ | refine ⟨.inr rfl,?_⟩,fun _ h=>h⟩,rfl⟩ ?_
 rintro ⟨k,A,B⟩ ⟨hk,hst,hfit,hfr⟩
 have hk:k≤n:=hk
 have hst:(A.map acP,B.map acP)=setF ((L.map acP).take k) (s,b,l):=hst
 have hfit:∀x∈A++B,x.fit:=hfit
 have hfr:∀φ∈A.map acF++B.map acF,∀g,φ.g=some g→w.heap.size≤g:=hfr
 have hAB:A.length+B.length≤k:=by have:=setF_le (L.map acP) (s,b,l) k;rw [← hst] at this;simpa using this
 conv=>arg 5;whnf
 refine wp_br (fun h1=>?_) (fun h1=>?_)
 ·have hlt:k<n:=by have h3:=of_decide_eq_true (show decide ((k:Int)<(n:Int))=true from h1);omega
  obtain ⟨x,hx⟩:∃x,L[k]?=some x:=⟨_,List.getElem?_eq_getElem (by omega)⟩
  have hxm:x∈L:=List.mem_of_getElem? hx
  obtain ⟨⟨xs,xn,xl,xd⟩,_⟩:=hA.2.2.2 x hxm
  have hsf:=setF_take (L:=L.map acP) (a:=(s,b,l)) (k:=k) (x:=acP x) (by rw [List.getElem?_map,hx];rfl)
  rw [← hst] at hsf
  have CP:=fun w hr=>copied x.s x.b x.l x.a x.n x.c w xs xn hr xl
  conv=>arg 5;whnf
  refine wp_must ⟨by omega,by show (k:Int)<(n:Int);omega,hs.some hlt⟩ ?_
  conv=>arg 5;whnf
  refine readS (vs:=x.cs) (sz:=3) (k:=k) rfl rfl (.tail _ (List.mem_append_right _ (.head _))) hlt (hs.some hlt) (cellsA_at hx) rfl ?_
  conv=>arg 5;whnf
  refine wp_br (fun h2=>?_) (fun h2=>?_)
  ·have h3:x.s=s:=by have:(x.s==s)=true:=h2;exact beq_iff_eq.1 this
   have hst2:(A.map acP,B.map acP)=setF ((L.map acP).take (k+1)) (s,b,l):=by rw [hsf];exact (setS_same h3).symm
   conv=>arg 5;whnf
   refine wp_must ⟨by show -9223372036854775808≤(k:Int)+1;omega,by show (k:Int)+1≤9223372036854775807;omega⟩ ?_
   conv=>arg 5;whnf
   refine wp_end ⟨(k+1,A,B),⟨hlt,hst2,hfit,hfr⟩,⟨by repeat' first | exact trivial | refine ⟨.inl rfl,?_⟩ | refine ⟨.inr rfl,?_⟩,⟨by repeat' first | exact trivial | refine ⟨.inl rfl,?_⟩ | refine ⟨.inr rfl,?_⟩,by repeat' first | exact trivial | refine ⟨.inl rfl,?_⟩ | refine ⟨.inr rfl,?_⟩,fun _ h=>h⟩,rfl⟩,by show n - (k+1)<n - k;omega⟩
  ·have h3:¬ x.s=s:=fun e=>by have:(x.s==s)=false:=h2;rw [e] at this;simp at this
   cases B with
   | cons b0 B0=>
    generalize hBB:(b0::B0)=B at *
    have hB0:B.map acP≠[]:=by rw [← hBB];simp
    have hBl:0<B.length:=by rw [← hBB];simp
    clear hBB
    conv=>arg 5;whnf
    refine wp_g0 (fun h4=>by have h5:=of_decide_eq_false (show decide ((0:Int)<(B.length:Int))=false from h4);omega) (fun h4=>?_)
    have hst2:∀y cy,(A.map acP,(B++[(⟨x.s,x.b,y,x.n,cy,x.l⟩:Ac)]).map acP)=setF ((L.map acP).take (k+1)) (s,b,l):=fun y cy=>by rw [hsf,acP_app];exact (setS_beh (a:=(s,b,l)) (st:=(A.map acP,B.map acP)) (x:=acP x) h3 (.inl hB0)).symm
    conv=>arg 5;whnf
    refine meet1F (f:=182) (n:=x.n) (v:=fun a1 c1=>acc x.s x.b a1 x.n c1) (xs:=cellsL x.l) rfl (by kernel_rfl) (fun β ρ w' hM'=>CP w' (hM'.at_ (.tail _ (List.mem_append_right _ (.tail _ (List.mem_map.2 ⟨x,hxm,rfl⟩)))))) (fun y c_y h_y f_y=>?_)
    conv=>arg 5;whnf
    refine wp_must ⟨by show B.length+1≤maxLen;unfold maxLen;omega,by show (B.length+1)*40≤140737488355328;omega⟩ ?_
    conv=>arg 5;whnf
    refine wp_must ⟨by show -9223372036854775808≤(k:Int)+1;omega,by show (k:Int)+1≤9223372036854775807;omega⟩ ?_
    conv=>arg 5;whnf
    have ec:cellsA (B++[⟨x.s,x.b,y,x.n,c_y,x.l⟩])=cellsA B++[.int .i64 x.s,.int .i64 x.b,.slice y x.n c_y]:=cellsA_append _ _
    have el:(B++[(⟨x.s,x.b,y,x.n,c_y,x.l⟩:Ac)]).length=B.length+1:=by simp
    have hmem:∀{φ},φ∈A.map acF++(B++[(⟨x.s,x.b,y,x.n,c_y,x.l⟩:Ac)]).map acF→φ∈A.map acF++B.map acF∨φ=rowF (pt y x.n) (cellsL x.l):=fun {φ} h=>by
     simp only [List.map_append,List.mem_append,List.map_cons,List.map_nil,List.mem_singleton] at h ⊢
     rcases h with h | h | h
     ·exact .inl (.inl h)
     ·exact .inl (.inr h)
     ·exact .inr h
    have hfit2:∀z∈A++(B++[(⟨x.s,x.b,y,x.n,c_y,x.l⟩:Ac)]),z.fit:=fun z hz=>by
      have hz2:z∈A++B∨z=(⟨x.s,x.b,y,x.n,c_y,x.l⟩:Ac):=by simp only [List.mem_append,List.mem_singleton] at hz ⊢;rcases hz with h | h | h;exact .inl (.inl h);exact .inl (.inr h);exact .inr h
      rcases hz2 with h | h
      ·exact hfit z h
      ·subst h;exact ⟨h_y,xn,xl,xd⟩
    have hfr2:∀φ∈A.map acF++(B++[(⟨x.s,x.b,y,x.n,c_y,x.l⟩:Ac)]).map acF,∀g,φ.g=some g→w.heap.size≤g:=fun φ hφ g hg=>(hmem hφ).elim (fun h=>hfr φ h g hg) fun h=>by subst h;exact f_y g hg
    refine wp_end ⟨(k+1,A,B++[⟨x.s,x.b,y,x.n,c_y,x.l⟩]),⟨hlt,hst2 y c_y,hfit2,hfr2⟩,⟨by repeat' first | exact trivial | refine ⟨.inl rfl,?_⟩ | refine ⟨.inr rfl,?_⟩,⟨by repeat' first | exact trivial | refine ⟨.inl rfl,?_⟩ | refine ⟨.inr rfl,?_⟩,by rw [ec,el];repeat' first | exact trivial | refine ⟨.inl rfl,?_⟩ | refine ⟨.inr rfl,?_⟩,fun φ hφ=>by
    rcases List.mem_cons.1 hφ with rfl | hφ
    ·exact .tail _ (.head _)
    ·rcases List.mem_append.1 hφ with hφ | hφ
     ·rcases hmem hφ with h | h
      ·exact .tail _ (.tail _ (List.mem_append_left _ h))
      ·subst h;exact .head _
     ·exact .tail _ (.tail _ (List.mem_append_right _ hφ))⟩,rfl⟩,by show n - (k+1)<n - k;omega⟩
   | nil=>
    conv=>arg 5;whnf
    refine wp_br (fun h4=>?_) (fun h4=>?_)
    ·have h5:s<x.s:=of_decide_eq_true h4
     generalize hBB:([]:List Ac)=B at *
     have hst2:∀y cy,(A.map acP,(B++[(⟨x.s,x.b,y,x.n,cy,x.l⟩:Ac)]).map acP)=setF ((L.map acP).take (k+1)) (s,b,l):=fun y cy=>by rw [hsf,acP_app];exact (setS_beh (a:=(s,b,l)) (st:=(A.map acP,B.map acP)) (x:=acP x) h3 (.inr h5)).symm
     conv=>arg 5;whnf
     refine meet1F (f:=182) (n:=x.n) (v:=fun a1 c1=>acc x.s x.b a1 x.n c1) (xs:=cellsL x.l) rfl (by kernel_rfl) (fun β ρ w' hM'=>CP w' (hM'.at_ (.tail _ (List.mem_append_right _ (.tail _ (List.mem_map.2 ⟨x,hxm,rfl⟩)))))) (fun y c_y h_y f_y=>?_)
     conv=>arg 5;whnf
     refine wp_must ⟨by show B.length+1≤maxLen;unfold maxLen;omega,by show (B.length+1)*40≤140737488355328;omega⟩ ?_
     conv=>arg 5;whnf
     refine wp_must ⟨by show -9223372036854775808≤(k:Int)+1;omega,by show (k:Int)+1≤9223372036854775807;omega⟩ ?_
     conv=>arg 5;whnf
     have ec:cellsA (B++[⟨x.s,x.b,y,x.n,c_y,x.l⟩])=cellsA B++[.int .i64 x.s,.int .i64 x.b,.slice y x.n c_y]:=cellsA_append _ _
     have el:(B++[(⟨x.s,x.b,y,x.n,c_y,x.l⟩:Ac)]).length=B.length+1:=by simp
     have hmem:∀{φ},φ∈A.map acF++(B++[(⟨x.s,x.b,y,x.n,c_y,x.l⟩:Ac)]).map acF→φ∈A.map acF++B.map acF∨φ=rowF (pt y x.n) (cellsL x.l):=fun {φ} h=>by
      simp only [List.map_append,List.mem_append,List.map_cons,List.map_nil,List.mem_singleton] at h ⊢
      rcases h with h | h | h
      ·exact .inl (.inl h)
      ·exact .inl (.inr h)
      ·exact .inr h
     have hfit2:∀z∈A++(B++[(⟨x.s,x.b,y,x.n,c_y,x.l⟩:Ac)]),z.fit:=fun z hz=>by
       have hz2:z∈A++B∨z=(⟨x.s,x.b,y,x.n,c_y,x.l⟩:Ac):=by simp only [List.mem_append,List.mem_singleton] at hz ⊢;rcases hz with h | h | h;exact .inl (.inl h);exact .inl (.inr h);exact .inr h
       rcases hz2 with h | h
       ·exact hfit z h
       ·subst h;exact ⟨h_y,xn,xl,xd⟩
     have hfr2:∀φ∈A.map acF++(B++[(⟨x.s,x.b,y,x.n,c_y,x.l⟩:Ac)]).map acF,∀g,φ.g=some g→w.heap.size≤g:=fun φ hφ g hg=>(hmem hφ).elim (fun h=>hfr φ h g hg) fun h=>by subst h;exact f_y g hg
     refine wp_end ⟨(k+1,A,B++[⟨x.s,x.b,y,x.n,c_y,x.l⟩]),⟨hlt,hst2 y c_y,hfit2,hfr2⟩,⟨by repeat' first | exact trivial | refine ⟨.inl rfl,?_⟩ | refine ⟨.inr rfl,?_⟩,⟨by repeat' first | exact trivial | refine ⟨.inl rfl,?_⟩ | refine ⟨.inr rfl,?_⟩,by rw [ec,el];repeat' first | exact trivial | refine ⟨.inl rfl,?_⟩ | refine ⟨.inr rfl,?_⟩,fun φ hφ=>by
    rcases List.mem_cons.1 hφ with rfl | hφ
    ·exact .tail _ (.head _)
    ·rcases List.mem_append.1 hφ with hφ | hφ
     ·rcases hmem hφ with h | h
      ·exact .tail _ (.tail _ (List.mem_append_left _ h))
      ·subst h;exact .head _
     ·exact .tail _ (.tail _ (List.mem_append_right _ hφ))⟩,rfl⟩,by show n - (k+1)<n - k;omega⟩
    ·have h5:¬ s<x.s:=of_decide_eq_false h4
     have hB1:¬ ((([]:List Ac).map acP)≠[]∨s<x.s):=by simp;omega
     generalize hBB:([]:List Ac)=B at *
     have hst2:∀y cy,((A++[(⟨x.s,x.b,y,x.n,cy,x.l⟩:Ac)]).map acP,B.map acP)=setF ((L.map acP).take (k+1)) (s,b,l):=fun y cy=>by rw [hsf,acP_app];exact (setS_ahe (a:=(s,b,l)) (st:=(A.map acP,B.map acP)) (x:=acP x) h3 hB1).symm
     conv=>arg 5;whnf
     refine meet1F (f:=182) (n:=x.n) (v:=fun a1 c1=>acc x.s x.b a1 x.n c1) (xs:=cellsL x.l) rfl (by kernel_rfl) (fun β ρ w' hM'=>CP w' (hM'.at_ (.tail _ (List.mem_append_right _ (.tail _ (List.mem_map.2 ⟨x,hxm,rfl⟩)))))) (fun y c_y h_y f_y=>?_)
     conv=>arg 5;whnf
     refine wp_must ⟨by show A.length+1≤maxLen;unfold maxLen;omega,by show (A.length+1)*40≤140737488355328;omega⟩ ?_
     conv=>arg 5;whnf
     refine wp_must ⟨by show -9223372036854775808≤(k:Int)+1;omega,by show (k:Int)+1≤9223372036854775807;omega⟩ ?_
     conv=>arg 5;whnf
     have ec:cellsA (A++[⟨x.s,x.b,y,x.n,c_y,x.l⟩])=cellsA A++[.int .i64 x.s,.int .i64 x.b,.slice y x.n c_y]:=cellsA_append _ _
     have el:(A++[(⟨x.s,x.b,y,x.n,c_y,x.l⟩:Ac)]).length=A.length+1:=by simp
     have hmem:∀{φ},φ∈(A++[(⟨x.s,x.b,y,x.n,c_y,x.l⟩:Ac)]).map acF++B.map acF→φ∈A.map acF++B.map acF∨φ=rowF (pt y x.n) (cellsL x.l):=fun {φ} h=>by
      simp only [List.map_append,List.mem_append,List.map_cons,List.map_nil,List.mem_singleton] at h ⊢
      rcases h with (h | h) | h
      ·exact .inl (.inl h)
      ·exact .inr h
      ·exact .inl (.inr h)
     have hfit2:∀z∈(A++[(⟨x.s,x.b,y,x.n,c_y,x.l⟩:Ac)])++B,z.fit:=fun z hz=>by
       have hz2:z∈A++B∨z=(⟨x.s,x.b,y,x.n,c_y,x.l⟩:Ac):=by simp only [List.mem_append,List.mem_singleton] at hz ⊢;rcases hz with (h | h) | h;exact .inl (.inl h);exact .inr h;exact .inl (.inr h)
       rcases hz2 with h | h
       ·exact hfit z h
       ·subst h;exact ⟨h_y,xn,xl,xd⟩
     have hfr2:∀φ∈(A++[(⟨x.s,x.b,y,x.n,c_y,x.l⟩:Ac)]).map acF++B.map acF,∀g,φ.g=some g→w.heap.size≤g:=fun φ hφ g hg=>(hmem hφ).elim (fun h=>hfr φ h g hg) fun h=>by subst h;exact f_y g hg
     refine wp_end ⟨(k+1,A++[⟨x.s,x.b,y,x.n,c_y,x.l⟩],B),⟨hlt,hst2 y c_y,hfit2,hfr2⟩,⟨by repeat' first | exact trivial | refine ⟨.inl rfl,?_⟩ | refine ⟨.inr rfl,?_⟩,⟨by repeat' first | exact trivial | refine ⟨.inl rfl,?_⟩ | refine ⟨.inr rfl,?_⟩,by rw [ec,el];repeat' first | exact trivial | refine ⟨.inl rfl,?_⟩ | refine ⟨.inr rfl,?_⟩,fun φ hφ=>by
    rcases List.mem_cons.1 hφ with rfl | hφ
    ·exact .tail _ (.head _)
    ·rcases List.mem_append.1 hφ with hφ | hφ
     ·rcases hmem hφ with h | h
      ·exact .tail _ (.tail _ (List.mem_append_left _ h))
      ·subst h;exact .head _
     ·exact .tail _ (.tail _ (List.mem_append_right _ hφ))⟩,rfl⟩,by show n - (k+1)<n - k;omega⟩
 ·have hkn:k=n:=by have h3:=of_decide_eq_false (show decide ((k:Int)<(n:Int))=false from h1);omega
  have e:(L.map acP).take k=L.map acP:=List.take_of_length_le (by rw [List.length_map];omega)
  rw [e] at hst
  have hsp:setP (L.map acP) (s,b,l)=A.map acP++(if emptyV b l.length then [] else [(s,b,l)])++B.map acP:=by unfold setP;rw [← hst]
  rw [hsp]
  have EM:=fun w=>empty s b a0 n0 c0 w
  rw [hn0] at EM
  have NX:=fun w=>next v w
  generalize emptyV b l.length=em at *
  generalize nextV v=nv at *
  conv=>arg 5;whnf
  refine meetc (f:=173) (v:=.bool em) rfl (by kernel_rfl) (fun β ρ w' hM'=>(by rw [hn0];exact EM w')) ?_
  cases em with
  | true=>
   rw [if_pos rfl,List.append_nil]
   conv=>arg 5;whnf
   refine wp_share fun p c_p h_p f_p=>?_
   conv=>arg 5;whnf
   refine wp_share fun q c_q h_q f_q=>?_
   conv=>arg 5;whnf
   refine wp_share fun z c_z h_z f_z=>?_
   conv=>arg 5;whnf
   refine meetO (e:=47) (size:=3) (A++B).length (cellsA (A++B)) rfl (by kernel_rfl) (fun β ρ w' hM'=>?_) (fun u c_u h_u f_u=>?_)
   ·have h1:=concatA [⟨p,A.length,c_p,A⟩,⟨q,B.length,c_q,B⟩] z 2 c_z w' h_z rfl (hM'.at_ (.head _)) (by
     intro x hx
     simp only [List.mem_cons,List.not_mem_nil,or_false] at hx
     rcases hx with rfl | rfl
     ·exact ⟨h_p,rfl,at_any _ (hM'.at_ (a:=p) (.tail _ (.tail _ (.head _))))⟩
     ·exact ⟨h_q,rfl,at_any _ (hM'.at_ (a:=q) (xs:=cellsA B) (.tail _ (.head _)))⟩) (by unfold flatA;rw [flatA_pair,List.length_append];omega)
    unfold flatA at h1
    rw [flatA_pair] at h1
    exact h1
   conv=>arg 5;whnf
   refine meetc (f:=191) (v:=.int .i64 nv) rfl (by kernel_rfl) (fun β ρ w' hM'=>NX w') ?_
   conv=>arg 5;whnf
   refine wp_back fun β ρ w' hM'=>⟨(u,c_u),A++B,(by rw [List.map_append]),hfit,h_u,rfl,hM'.below,fun φ hφ g hg=>?_⟩
   rcases List.mem_cons.1 hφ with rfl | hφ
   ·exact giveO _ hM' (.head _) f_u g hg
   ·rw [List.map_append] at hφ
    exact ⟨hfr φ hφ g hg,(hM'.fact φ (.tail _ (.tail _ (.tail _ (.tail _ (.tail _ (List.mem_append_left _ hφ)))))) g hg).2⟩
  | false=>
   rw [if_neg (by simp)]
   have CP:=fun w hr=>copied s b l a0 n0 c0 w hs0 hn0 hr hl0
   conv=>arg 5;whnf
   refine meet1F (f:=182) (n:=n0) (v:=fun a1 c1=>acc s b a1 n0 c1) (xs:=cellsL l) rfl (by kernel_rfl) (fun β ρ w' hM'=>CP w' (hM'.at_ (.head _))) (fun y c_y h_y f_y=>?_)
   conv=>arg 5;whnf
   refine wp_must ⟨by show A.length+1≤maxLen;unfold maxLen;omega,by show (A.length+1)*40≤140737488355328;omega⟩ ?_
   have ec:cellsA A++[.int .i64 s,.int .i64 b,.slice y n0 c_y]=cellsA (A++[⟨s,b,y,n0,c_y,l⟩]):=(cellsA_append A (⟨s,b,y,n0,c_y,l⟩:Ac)).symm
   have el:A.length+1=(A++[(⟨s,b,y,n0,c_y,l⟩:Ac)]).length:=by simp
   have hm2:(A++[(⟨s,b,y,n0,c_y,l⟩:Ac)]).map acP=A.map acP++[(s,b,l)]:=by rw [List.map_append];rfl
   have hx:∀z∈A++[(⟨s,b,y,n0,c_y,l⟩:Ac)],z∈A∨z=(⟨s,b,y,n0,c_y,l⟩:Ac):=fun z hz=>by simpa using hz
   have hf2:(⟨s,b,y,n0,c_y,l⟩:Ac).fit:=⟨h_y,hn0,hl0,hd0⟩
   have hfa:acF (⟨s,b,y,n0,c_y,l⟩:Ac)=rowF (pt y n0) (cellsL l):=rfl
   conv=>arg 5;whnf
   refine wp_share fun p c_p h_p f_p=>?_
   conv=>arg 5;whnf
   refine wp_share fun q c_q h_q f_q=>?_
   conv=>arg 5;whnf
   refine wp_share fun z c_z h_z f_z=>?_
   conv=>arg 5;whnf
   refine meetO (e:=47) (size:=3) ((A++[(⟨s,b,y,n0,c_y,l⟩:Ac)])++B).length (cellsA ((A++[(⟨s,b,y,n0,c_y,l⟩:Ac)])++B)) rfl (by kernel_rfl) (fun β ρ w' hM'=>?_) (fun u c_u h_u f_u=>?_)
   ·have h1:=concatA [⟨p,A.length+1,c_p,(A++[(⟨s,b,y,n0,c_y,l⟩:Ac)])⟩,⟨q,B.length,c_q,B⟩] z 2 c_z w' h_z rfl (hM'.at_ (.head _)) (by
     intro x hx
     simp only [List.mem_cons,List.not_mem_nil,or_false] at hx
     rcases hx with rfl | rfl
     ·exact ⟨h_p,el,at_any _ (ec▸hM'.at_ (a:=p) (.tail _ (.tail _ (.head _))))⟩
     ·exact ⟨h_q,rfl,at_any _ (hM'.at_ (a:=q) (xs:=cellsA B) (.tail _ (.head _)))⟩) (by unfold flatA;rw [flatA_pair,List.length_append,← el];omega)
    unfold flatA at h1
    rw [flatA_pair] at h1
    exact h1
   conv=>arg 5;whnf
   refine meetc (f:=191) (v:=.int .i64 nv) rfl (by kernel_rfl) (fun β ρ w' hM'=>NX w') ?_
   conv=>arg 5;whnf
   refine wp_back fun β ρ w' hM'=>⟨(u,c_u),(A++[(⟨s,b,y,n0,c_y,l⟩:Ac)])++B,(by rw [List.map_append,hm2]),(fun z hz=>(List.mem_append.1 hz).elim (fun hz=>(hx z hz).elim (fun h=>hfit z (List.mem_append_left _ h)) fun h=>by subst h;exact hf2) fun hz=>hfit z (List.mem_append_right _ hz)),h_u,rfl,hM'.below,fun φ hφ g hg=>?_⟩
   rcases List.mem_cons.1 hφ with rfl | hφ
   ·exact giveO _ hM' (.head _) f_u g hg
   ·obtain ⟨z0,hz0,rfl⟩:=List.mem_map.1 hφ
    rcases List.mem_append.1 hz0 with hz0 | hz0
    ·rcases hx z0 hz0 with hz0 | rfl
     ·have hm0:acF z0∈A.map acF++B.map acF:=List.mem_append_left _ (List.mem_map.2 ⟨z0,hz0,rfl⟩)
      exact ⟨hfr _ hm0 g hg,(hM'.fact _ (.tail _ (.tail _ (.tail _ (.tail _ (.tail _ (.tail _ (List.mem_append_left _ hm0))))))) g hg).2⟩
     ·exact ⟨f_y g hg,(hM'.fact _ (.tail _ (.tail _ (.tail _ (.tail _ (.head _))))) g hg).2⟩
    ·have hm0:acF z0∈A.map acF++B.map acF:=List.mem_append_right _ (List.mem_map.2 ⟨z0,hz0,rfl⟩)
     exact ⟨hfr _ hm0 g hg,(hM'.fact _ (.tail _ (.tail _ (.tail _ (.tail _ (.tail _ (.tail _ (List.mem_append_left _ hm0))))))) g hg).2⟩
end Go.Proofs.YtfhgkkcpkcjbmaaGreatDoor.shard
namespace Go.Proofs.YtfhgkkcpkcjbmaaGreatDoor.shard
open Go.RowKit Sx txn queue greedy
section
variable {P : Program} {W : World} {G : Option Nat} {Q : Ending → World → Prop} {ds : List Deferred}
theorem op_appendN {E:Env} (hE:E.Ok P) {q:Option (List Fact)} {o:Oper} {m:M} {t:List T} {k:M→List T→T→Tree} {x y:Operand} {ty e:TypeId} {size bytes n b j:Nat} {v:Value} {xs news:List Value} {te:TypeId} (fs:List Fact)
  (ho:o.op=.call ⟨.builtin .append,#[x,y],#[ty,ty]⟩) (hrow:lk E.row ty=some (e,size,bytes)) (hx:ev t x=.v v) (hy:ev t y=.s b j) (hb:m.own[b]?=some (some (news.map T.v,te))) (hj:news.length=j*size)
  (hFV:(v=.slice none 0 0∧n=0)∨(ownF v e size n xs∈m.facts∧TV W v n)) (hl:xs.length=n*size) (h63:n+j≤maxLen) (hby:(n+j)*bytes≤140737488355328)
  (hq:∀F,q=some F→v=.slice none 0 0∨∃ψ∈F,ψ.g=v.ownBlock) (hfs:∀ψ∈fs,ψ∈m.facts∧∀g,ψ.g=some g→v.ownBlock≠some g)
  (h:∀v',TV W v' (n+j)→(∀ψ∈fs,∀g,ψ.g=some g→v'.ownBlock≠some g)→(k { m with facts:=ownF v' e size (n+j) (xs++news)::fs } t (.v v')).wpD P W G Q ds):(Tree.op q o m t k).wpD P W G Q ds:=by
 intro β ρ a w hm hr K Q' hK
 obtain ⟨dst,op,ty',pos,after,guard⟩:=o
 simp only at ho
 subst ho
 have h1:=hr.ev x
 rw [hx] at h1
 have h1:a.eval x=v:=h1
 have h2:=hr.ev y
 rw [hy] at h2
 obtain ⟨g2,hg2,h2⟩:=h2
 obtain ⟨g3,l,hg3,hw3,hr3,ho3⟩:=hm.own b _ te hb
 rw [hg2] at hg3
 cases hg3
 have hr3:=vals_eqA hr3
 subst hr3
 obtain ⟨ht,i,z,hi,hz,hsize,hbb,hzs,hsz⟩:=hE.row ty e size bytes hrow
 have hown:w.ownsRow W.heap.size e size v n xs:=hFV.elim (fun h=>⟨hl,.inl h⟩) fun h=>own_of_fact hm h.1 h.2 hl
 obtain ⟨v',w',hrun,hown',hgr,hwhere⟩:=append_run (P:=P) (w:=w) ty ty' e i z size bytes ht hi hz hsize hbb hzs hsz hown (some ⟨g2,0,none⟩) j j l hj (fun a0 ha0 jj u hu=>by
  cases ha0
  simp only [add_mk,World.cell?]
  rw [hw3]
  simpa using hu) ho3 (fun hn=>by cases hn) h63 hby hm.grown.size
 unfold Oper.wp
 have:(execOp a.eval ⟨dst,.call ⟨.builtin .append,#[x,y],#[ty,ty]⟩,ty',pos,after,guard⟩).run P w=.ok (.value v') w':=by
  simp [execOp,resolve,invoke,builtin,h1,h2,hrun]
 rw [this]
 have hTV:=tv_of_own hown'
 have hfo:=fact_of_own hown'
 have hnew:∀{w0:World},w0=w→∀g,(ownF v' e size (n+j) (xs++l)).g=some g→v'.ownBlock=some w.heap.size→Apart m β ρ g:=fun _ g hg he=>by
  have e1:g=w.heap.size:=by
   have:v'.ownBlock=some g:=hg
   rw [he] at this
   exact (Option.some.inj this).symm
  exact hm.apart (.inr (.inl (by omega)))
 have hap:∀ψ∈fs,∀g,ψ.g=some g→v'.ownBlock≠some g:=fun ψ hψ g hg e=>by
  rcases hwhere with he | ⟨he,_⟩
  ·exact (hfs ψ hψ).2 g hg (he▸e)
  ·obtain ⟨_,o,ho,_⟩:=hm.fact ψ (hfs ψ hψ).1 g hg
   have h8:=(Array.getElem?_eq_some_iff.1 ho).1
   rw [he] at e
   cases e
   omega
 have hV2:(v=.slice none 0 0∧n=0)∨∃g cap,v=.slice (some ⟨g,0,none⟩) n cap∧W.heap.size≤g∧ownF v e size n xs∈m.facts:=by
  rcases hFV with h | ⟨h,h3 | ⟨g,cap,h4,h5⟩⟩
  ·exact .inl h
  ·exact .inl h3
  ·exact .inr ⟨g,cap,h4,h5,h⟩
 rcases hV2 with ⟨rfl,hn⟩ | ⟨g,cap,rfl,hgW,hF⟩
 ·have hbel:Below w.heap.size w w':=⟨hgr.os,hgr.tape,hgr.output,hgr.size,fun k hk=>hgr.block k hk (by simp [Value.ownBlock])⟩
  refine hK _ t (.v v') β ρ w' v' (h v' hTV hap) ?_ hr rfl (fun F hq=>⟨rfl,rfl,.inl hbel⟩)
  have h5:Mem W G { m with facts:=fs } β ρ w':=by
   have:=hm.grow hbel
   exact ⟨this.grown,this.nd,this.bl,this.lo,this.own,this.rl,this.row,this.rb,this.rows,fun φ hφ=>this.fact φ (hfs φ hφ).1⟩
  refine h5.learn [ownF v' e size (n+j) (xs++l)] fun φ hφ g hg=>?_
  simp only [List.mem_singleton] at hφ
  subst hφ
  refine ⟨?_,(hfo g hg).2⟩
  rcases hwhere with he | ⟨he,_⟩
  ·have h7:v'.ownBlock=some g:=hg
   rw [he] at h7
   cases h7
  ·exact hnew rfl g hg he
 ·refine hK _ t (.v v') β ρ w' v' (h v' hTV hap) ?_ hr rfl (fun F hF'=>⟨rfl,rfl,.inr ?_⟩)
  ·rcases hwhere with he | ⟨he,_⟩
   ·refine hm.turn hF rfl (.inl hgW) hgr fun ψ hψ=>?_
    rcases List.mem_cons.1 hψ with rfl | hψ
    ·exact .inr ⟨he,(hfo g he).2⟩
    ·refine .inl ⟨(hfs ψ hψ).1,fun hg=>(hfs ψ hψ).2 g hg rfl⟩
   ·have h5:Mem W G { m with facts:=fs } β ρ w':=hm.turn hF rfl (.inl hgW) hgr fun ψ hψ=>.inl ⟨(hfs ψ hψ).1,fun hg=>(hfs ψ hψ).2 g hg rfl⟩
    refine h5.learn [ownF v' e size (n+j) (xs++l)] fun φ hφ g hg=>?_
    simp only [List.mem_singleton] at hφ
    subst hφ
    exact ⟨hnew rfl g hg he,(hfo g hg).2⟩
  ·rcases hq F hF' with h | ⟨ψ,h1,h2⟩
   ·cases h
   ·exact ⟨ψ,h1,g,h2,.inl hgW,hgr⟩
end
abbrev ofS (s:Int) (L:List Ac):List Ac:=ofK (fun x:Ac=>x.s) s L
def keyS (ks:List Int) (x:Ac):List Int:=if x.s∈ks then ks else ks++[x.s]
def keysP (L:List Ac):List Int:=L.foldl keyS []
theorem keysP_take {L:List Ac} {k:Nat} {x:Ac} (h:L[k]?=some x):keysP (L.take (k+1))=keyS (keysP (L.take k)) x:=by unfold keysP;rw [List.take_add_one,h,List.foldl_append];rfl
theorem keyS_nodup {ks:List Int} (x:Ac) (h:ks.Nodup):(keyS ks x).Nodup:=by
 unfold keyS
 split
 ·exact h
 ·rename_i hx
  rw [List.nodup_append]
  exact ⟨h,by simp,fun a ha b hb=>by simp at hb;subst hb;exact fun e=>hx (e▸ha)⟩
theorem keysF_nodup:∀(L:List Ac) (ks:List Int),ks.Nodup→(L.foldl keyS ks).Nodup
 | [],ks,h=>h
 | x::L,ks,h=>keysF_nodup L _ (keyS_nodup x h)
theorem keysP_nodup (L:List Ac):(keysP L).Nodup:=keysF_nodup L [] List.nodup_nil
theorem keyS_mem (ks:List Int) (x:Ac) (s:Int):s∈keyS ks x↔s∈ks∨s=x.s:=by
 unfold keyS
 split
 ·rename_i hx
  exact ⟨.inl,fun h=>h.elim id fun e=>e▸hx⟩
 ·simp
theorem keysF_mem:∀(L:List Ac) (ks:List Int) (s:Int),s∈L.foldl keyS ks↔s∈ks∨∃x∈L,x.s=s
 | [],ks,s=>by simp
 | x::L,ks,s=>by
  rw [List.foldl_cons,keysF_mem L,keyS_mem]
  simp only [List.mem_cons,exists_eq_or_imp]
  constructor
  ·rintro ((h | h) | h);exact .inl h;exact .inr (.inl h.symm);exact .inr (.inr h)
  ·rintro (h | h | h);exact .inl (.inl h);exact .inl (.inr h.symm);exact .inr h
theorem keysP_mem (L:List Ac) (s:Int):s∈keysP L↔∃x∈L,x.s=s:=by unfold keysP;rw [keysF_mem];simp
theorem ofS_none {L:List Ac} {s:Int} (h:s∉keysP L):ofS s L=[]:=ofK_none fun x hx e=>h ((keysP_mem L s).2 ⟨x,hx,e⟩)
theorem ofS_take {L:List Ac} {k:Nat} {x:Ac} (h:L[k]?=some x) (s:Int):ofS s (L.take (k+1))=ofS s (L.take k)++(if x.s=s then [x] else []):=by
 unfold ofS
 rw [List.take_add_one,h,ofK_app]
 show _++ofK _ s [x]=_
 rw [ofK_one]
theorem ofS_le (s:Int) (L:List Ac):(ofS s L).length≤L.length:=List.length_filter_le ..
def upd (f:Int→Value) (s:Int) (v:Value):Int→Value:=fun y=>if y=s then v else f y
def bkM (ks:List Int) (f:Int→Value):List (Int×Value):=ks.map fun s=>(s,f s)
theorem lk_bkM (ks:List Int) (f:Int→Value) (s:Int):lkM (bkM ks f) s=if s∈ks then some (f s) else none:=by
 induction ks with
 | nil=>rfl
 | cons k ks ih=>
  show lkM ((k,f k)::bkM ks f) s=_
  rw [lkM_cons,ih]
  by_cases h:k=s
  ·subst h;simp
  ·simp [h,Ne.symm h]
theorem bkM_upd {ks:List Int} {f:Int→Value} {s:Int} {v:Value} (h:s∉ks):bkM ks (upd f s v)=bkM ks f:=by
 unfold bkM
 exact List.map_congr_left fun k hk=>by
  have hks:k≠s:=fun e=>h (by rw [← e];exact hk)
  simp [upd,hks]
theorem put_bkM (x:Ac) (f:Int→Value) (v:Value):∀{ks:List Int},ks.Nodup→putM (bkM ks f) x.s v=bkM (keyS ks x) (upd f x.s v)
 | [],_=>by simp [bkM,putM,keyS,upd]
 | k::ks,h=>by
  rw [List.nodup_cons] at h
  show putM ((k,f k)::bkM ks f) x.s v=_
  unfold putM
  by_cases hk:k=x.s
  ·rw [if_pos hk]
   have e1:keyS (k::ks) x=k::ks:=by unfold keyS;rw [if_pos (by rw [hk];exact List.mem_cons_self ..)]
   rw [e1]
   show _=(k,upd f x.s v k)::bkM ks (upd f x.s v)
   rw [bkM_upd (by rw [← hk];exact h.1),hk]
   simp [upd]
  ·rw [if_neg hk,put_bkM x f v h.2]
   have e1:keyS (k::ks) x=k::keyS ks x:=by
    unfold keyS
    by_cases hm:x.s∈ks
    ·rw [if_pos hm,if_pos (List.mem_cons_of_mem _ hm)]
    ·rw [if_neg hm,if_neg (by simp [hm];exact fun e=>hk e.symm)];rfl
   rw [e1]
   show _=(k,upd f x.s v k)::bkM (keyS ks x) (upd f x.s v)
   have e2:upd f x.s v k=f k:=by unfold upd;rw [if_neg hk]
   rw [e2]
def bkO (f:Int→Value) (L:List Ac) (s:Int):Fact:=ownF (f s) 47 3 (ofS s L).length (cellsA (ofS s L))
structure Bk (w:World) (g:Nat) (f:Int→Value) (L:List Ac):Prop where
 tv:∀s,TV w (f s) (ofS s L).length
 nil:∀s,s∉keysP L→f s=.slice none 0 0
 apart:∀s s',s≠s'→∀b,(f s).ownBlock=some b→(f s').ownBlock≠some b
 lo:∀s b,(f s).ownBlock=some b→w.heap.size≤b∧b≠g
theorem Bk.start (w:World) (g:Nat):Bk w g (fun _=>.slice none 0 0) []:=⟨fun s=>.inl ⟨rfl,rfl⟩,fun s _=>rfl,fun s s' _ b h=>(by cases h),fun s b h=>(by cases h)⟩
theorem Bk.step {w:World} {g:Nat} {f:Int→Value} {L:List Ac} {k:Nat} {x:Ac} {v:Value} (h:Bk w g f (L.take k)) (hx:L[k]?=some x) (hv:TV w v ((ofS x.s (L.take k)).length+1)) (hap:∀s,s≠x.s→∀b,(f s).ownBlock=some b→v.ownBlock≠some b) (hg:v.ownBlock≠some g):Bk w g (upd f x.s v) (L.take (k+1)):=by
 have hvb:∀b,v.ownBlock=some b→w.heap.size≤b:=fun b hb=>by
  rcases hv with ⟨rfl,_⟩ | ⟨g',cap,rfl,h'⟩
  ·cases hb
  ·cases hb;exact h'
 constructor
 ·intro s
  rw [ofS_take hx]
  by_cases hs:x.s=s
  ·subst hs
   simp only [upd,if_true]
   rw [List.length_append];exact hv
  ·rw [if_neg hs,List.append_nil]
   unfold upd
   rw [if_neg (Ne.symm hs)]
   exact h.tv s
 ·intro s hs
  rw [keysP_take hx,keyS_mem,not_or] at hs
  unfold upd
  rw [if_neg hs.2]
  exact h.nil s hs.1
 ·intro s s' hss b hb
  unfold upd at *
  by_cases h1:s=x.s
  ·rw [if_pos h1] at hb
   have h2:s'≠x.s:=fun e=>hss (h1.trans e.symm)
   rw [if_neg h2]
   exact fun e=>hap s' h2 b e hb
  ·rw [if_neg h1] at hb
   by_cases h2:s'=x.s
   ·rw [if_pos h2];exact hap s h1 b hb
   ·rw [if_neg h2];exact h.apart s s' hss b hb
 ·intro s b hb
  unfold upd at hb
  by_cases h1:s=x.s
  ·rw [if_pos h1] at hb
   exact ⟨hvb b hb,fun e=>hg (e▸hb)⟩
  ·rw [if_neg h1] at hb
   exact h.lo s b hb
def bkF (ks:List Int) (f:Int→Value) (L:List Ac):List Fact:=ks.map (bkO f L)
def bookF (g:Nat) (f:Int→One) (L:List Ac):List Fact:=mapF g (bkM (keysP L) fun s=>.slice (f s).1 (ofS s L).length (f s).2)::(keysP L).map fun s=>rowF (pt (f s).1 (ofS s L).length) (cellsA (ofS s L))
theorem bookOf (L:List Ac) (a:Option Addr) (n c:Nat) (w:World) (hA:Acs w a n c L) (h1000:n≤1000000) :
  Calls Tryz.prog 179 (List.toArray [.slice a n c]) w fun e w'=>∃i:Nat×(Int→One),(∀s,Sl (i.2 s).1 (ofS s L).length (i.2 s).2)∧Gives w w' e (.map (some i.1)) (bookF i.1 i.2 L):=by
 have hs:=hA.1
 have hn:=hA.2.1
 have hn63:=hs.le
 refine calls_of_exec ((Sxs.env_ok.keeps.open_ [1000000] true).lead_ 1) Tryz.func179 rfl [(5,(lineT [0,1,2,3,4,5,6,7,8,9] [10],[]))] (schedQ_ok _ _ (by kernel_rfl)) (acsF a n L) hA.facts ?_
 conv=>arg 5;whnf
 refine op_makeMap rfl (fun g hg=>?_)
 have hgA:∀ψ∈acsF a n L,ψ.g≠some g:=fun ψ hψ e=>by
  obtain ⟨o,ho,_⟩:=hA.facts ψ hψ g e
  have:=(Array.getElem?_eq_some_iff.1 ho).1
  omega
 conv=>arg 5;whnf
 refine loop_ruleE ((Sxs.env_ok.keeps.open_ [1000000] true).lead_ 1) [(5,(lineT [0,1,2,3,4,5,6,7,8,9] [10],[]))] (schedQ_ok _ _ (by kernel_rfl)) [0,0] (fun i:Nat×(Int→Value)=>i.1≤n∧Bk w g i.2 (L.take i.1)) (fun i=>(⟨[],[],mapF g (bkM (keysP (L.take i.1)) i.2)::(bkF (keysP (L.take i.1)) i.2 (L.take i.1)++acsF a n L)⟩,[.any,.any,.any,.v (.map (some g)),.any,.any,.any,.v (.slice a n c),.v (.int .i64 n),.v (.int .i64 i.1),.any,.any,.any,.any,.any,.any,.any,.any,.any,.any,.any,.any,.any,.any,.any])) (fun i=>n - i.1) (0,fun _=>.slice none 0 0) ⟨Nat.zero_le _,Bk.start w g⟩ ⟨by repeat' first | exact trivial | refine ⟨.inl rfl,?_⟩ | refine ⟨.inr rfl,?_⟩,⟨by repeat' first | exact trivial | refine ⟨.inl rfl,?_⟩ | refine ⟨.inr rfl,?_⟩,by repeat' first | exact trivial | refine ⟨.inl rfl,?_⟩ | refine ⟨.inr rfl,?_⟩,fun _ h=>h⟩,rfl⟩ ?_
 rintro ⟨k,f⟩ ⟨hk,hB⟩
 have hk:k≤n:=hk
 have hB:Bk w g f (L.take k):=hB
 conv=>arg 5;whnf
 refine wp_br (fun h1=>?_) (fun h1=>?_)
 ·have hlt:k<n:=by have h3:=of_decide_eq_true (show decide ((k:Int)<(n:Int))=true from h1);omega
  obtain ⟨x,hx⟩:∃x,L[k]?=some x:=⟨_,List.getElem?_eq_getElem (by omega)⟩
  have hxm:x∈L:=List.mem_of_getElem? hx
  have hnd:=keysP_nodup (L.take k)
  have hlk:(lkM (bkM (keysP (L.take k)) f) x.s).getD (.slice none 0 0)=f x.s:=by
   rw [lk_bkM]
   by_cases h:x.s∈keysP (L.take k)
   ·rw [if_pos h];rfl
   ·rw [if_neg h,hB.nil _ h];rfl
  have hsep:∀φ∈[mapF g (bkM (keysP (L.take k)) f)],∀ψ∈bkF (keysP (L.take k)) f (L.take k)++acsF a n L,∀g',ψ.g=some g'→φ.g≠some g':=fun φ hφ ψ hψ g' hg' e=>by
   simp only [List.mem_singleton] at hφ
   subst hφ
   cases e
   rcases List.mem_append.1 hψ with hψ | hψ
   ·obtain ⟨s',hs',rfl⟩:=List.mem_map.1 hψ
    exact (hB.lo s' g hg').2 rfl
   ·exact hgA ψ hψ hg'
  have hQ:f x.s=.slice none 0 0∨∃ψ∈bkF (keysP (L.take k)) f (L.take k)++acsF a n L,ψ.g=(f x.s).ownBlock:=by
   by_cases h:x.s∈keysP (L.take k)
   ·exact .inr ⟨_,List.mem_append_left _ (List.mem_map.2 ⟨x.s,h,rfl⟩),rfl⟩
   ·exact .inl (hB.nil _ h)
  conv=>arg 5;whnf
  refine wp_must ⟨by omega,by show (k:Int)<(n:Int);omega,hs.some hlt⟩ ?_
  conv=>arg 5;whnf
  refine readG Sxs.env_ok (vs:=x.cs) (sz:=3) (k:=k) rfl rfl (.tail _ (List.mem_append_right _ (.head _))) hlt (hs.some hlt) (cellsA_at hx) rfl ?_
  conv=>arg 5;whnf
  refine wp_must hsep ?_
  conv=>arg 5;whnf
  refine peek_lookup (z:=.slice none 0 0) (l:=bkM (keysP (L.take k)) f) Tryz.underlying232 Tryz.underlying3 (fun w=>by kernel_rfl) (.head _) ?_
  rw [show (if false=true then Value.tuple #[(lkM (bkM (keysP (L.take k)) f) x.s).getD (.slice none 0 0),.bool (lkM (bkM (keysP (L.take k)) f) x.s).isSome] else (lkM (bkM (keysP (L.take k)) f) x.s).getD (.slice none 0 0))=f x.s from hlk]
  have hol:=ofS_le x.s (L.take k)
  have hkl:(L.take k).length≤k:=by rw [List.length_take];omega
  have hFS:∀ψ∈mapF g (bkM (keysP (L.take k)) f)::(bkF ((keysP (L.take k)).filter (fun s=>s != x.s)) f (L.take k)++acsF a n L),ψ∈mapF g (bkM (keysP (L.take k)) f)::(bkF (keysP (L.take k)) f (L.take k)++acsF a n L)∧∀g',ψ.g=some g'→(f x.s).ownBlock≠some g':=fun ψ hψ=>by
   rcases List.mem_cons.1 hψ with rfl | hψ
   ·exact ⟨.head _,fun g' hg' e=>by cases hg';exact (hB.lo _ _ e).2 rfl⟩
   ·rcases List.mem_append.1 hψ with hψ | hψ
    ·obtain ⟨s',hs',rfl⟩:=List.mem_map.1 hψ
     rw [List.mem_filter] at hs'
     refine ⟨.tail _ (List.mem_append_left _ (List.mem_map.2 ⟨s',hs'.1,rfl⟩)),fun g' hg'=>hB.apart s' x.s (by simpa using hs'.2) g' hg'⟩
    ·refine ⟨.tail _ (List.mem_append_right _ hψ),fun g' hg' e=>?_⟩
     obtain ⟨o,ho,_⟩:=hA.facts ψ hψ g' hg'
     have:=(Array.getElem?_eq_some_iff.1 ho).1
     have:=(hB.lo _ _ e).1
     omega
  have hFV:(f x.s=.slice none 0 0∧(ofS x.s (L.take k)).length=0)∨(ownF (f x.s) 47 3 (ofS x.s (L.take k)).length (cellsA (ofS x.s (L.take k)))∈mapF g (bkM (keysP (L.take k)) f)::(bkF (keysP (L.take k)) f (L.take k)++acsF a n L)∧TV w (f x.s) (ofS x.s (L.take k)).length):=by
   by_cases h:x.s∈keysP (L.take k)
   ·exact .inr ⟨.tail _ (List.mem_append_left _ (List.mem_map.2 ⟨x.s,h,rfl⟩)),hB.tv _⟩
   ·exact .inl ⟨hB.nil _ h,by rw [ofS_none h];rfl⟩
  conv=>arg 5;whnf
  refine op_appendN ((Sxs.env_ok.keeps.open_ [1000000] true).lead_ 1) (v:=f x.s) (n:=(ofS x.s (L.take k)).length) (xs:=cellsA (ofS x.s (L.take k))) (news:=x.cs) (j:=1) (mapF g (bkM (keysP (L.take k)) f)::(bkF ((keysP (L.take k)).filter (fun s=>s != x.s)) f (L.take k)++acsF a n L)) rfl rfl rfl rfl rfl rfl hFV (cellsA_length _) (by show _+1≤maxLen;unfold maxLen;omega) (by show (_+1)*40≤_;omega) (by intro F hF;cases hF;exact hQ) (by exact hFS) (fun v2 hV2 hap=>?_)
  have hv2g:v2.ownBlock≠some g:=hap _ (.head _) g rfl
  have hB2:=hB.step hx hV2 (fun s hs b hb=>by
   by_cases h:s∈keysP (L.take k)
   ·exact hap (bkO f (L.take k) s) (.tail _ (List.mem_append_left _ (List.mem_map.2 ⟨s,List.mem_filter.2 ⟨h,by simpa using hs⟩,rfl⟩))) b hb
   ·rw [hB.nil s h] at hb;cases hb) hv2g
  have eo:ownF v2 47 3 ((ofS x.s (L.take k)).length+1) (cellsA (ofS x.s (L.take k))++x.cs)=bkO (upd f x.s v2) (L.take (k+1)) x.s:=by
   unfold bkO
   rw [ofS_take hx,if_pos rfl,List.length_append,cellsA_append]
   simp [upd]
  have ek:∀s,s≠x.s→bkO (upd f x.s v2) (L.take (k+1)) s=bkO f (L.take k) s:=fun s hs=>by
   unfold bkO
   rw [ofS_take hx,if_neg (Ne.symm hs),List.append_nil]
   simp [upd,hs]
  conv=>arg 5;whnf
  refine op_mapUpdate (g:=g) (l:=bkM (keysP (L.take k)) f) (x:=x.s) (v:=v2) (mapF g (putM (bkM (keysP (L.take k)) f) x.s v2)::ownF v2 47 3 ((ofS x.s (L.take k)).length+1) (cellsA (ofS x.s (L.take k))++x.cs)::(bkF ((keysP (L.take k)).filter (fun s=>s != x.s)) f (L.take k)++acsF a n L)) rfl rfl rfl rfl Tryz.underlying232 Tryz.underlying3 (.tail _ (.head _)) (.inl hg) (fun ψ hψ=>?_) ?_
  ·rcases List.mem_cons.1 hψ with rfl | hψ
   ·exact .inr rfl
   ·rcases List.mem_cons.1 hψ with rfl | hψ
    ·exact .inl ⟨.head _,hv2g⟩
    ·refine .inl ⟨.tail _ (.tail _ hψ),fun e=>?_⟩
     rcases List.mem_append.1 hψ with hψ | hψ
     ·obtain ⟨s',hs',rfl⟩:=List.mem_map.1 hψ
      exact (hB.lo s' g e).2 rfl
     ·exact hgA ψ hψ e
  conv=>arg 5;whnf
  refine wp_must ⟨by show -9223372036854775808≤(k:Int)+1;omega,by show (k:Int)+1≤9223372036854775807;omega⟩ ?_
  conv=>arg 5;whnf
  refine wp_end ⟨(k+1,upd f x.s v2),⟨hlt,hB2⟩,⟨by repeat' first | exact trivial | refine ⟨.inl rfl,?_⟩ | refine ⟨.inr rfl,?_⟩,⟨by repeat' first | exact trivial | refine ⟨.inl rfl,?_⟩ | refine ⟨.inr rfl,?_⟩,by repeat' first | exact trivial | refine ⟨.inl rfl,?_⟩ | refine ⟨.inr rfl,?_⟩,fun φ hφ=>by
    rcases List.mem_cons.1 hφ with rfl | hφ
    ·rw [keysP_take hx,← put_bkM x f v2 hnd];exact .head _
    ·rcases List.mem_append.1 hφ with hφ | hφ
     ·obtain ⟨s',hs',rfl⟩:=List.mem_map.1 hφ
      by_cases h:s'=x.s
      ·subst h;show bkO (upd f x.s v2) (L.take (k+1)) x.s∈_;rw [← eo];exact .tail _ (.head _)
      ·show bkO (upd f x.s v2) (L.take (k+1)) s'∈_
       rw [ek s' h]
       have hs2:s'∈keysP (L.take (k+1)):=hs'
       rw [keysP_take hx,keyS_mem] at hs2
       exact .tail _ (.tail _ (List.mem_append_left _ (List.mem_map.2 ⟨s',List.mem_filter.2 ⟨hs2.resolve_right h,by simpa using h⟩,rfl⟩)))
     ·exact .tail _ (.tail _ (List.mem_append_right _ hφ))⟩,rfl⟩,by show n - (k+1)<n - k;omega⟩
 ·have hkn:k=n:=by have h3:=of_decide_eq_false (show decide ((k:Int)<(n:Int))=false from h1);omega
  have e:L.take k=L:=List.take_of_length_le (by omega)
  rw [e] at hB
  rw [e]
  conv=>arg 5;whnf
  refine wp_back fun β ρ w' hM'=>?_
  have hch:∀s,∃o:One,f s=.slice o.1 (ofS s L).length o.2∧Sl o.1 (ofS s L).length o.2∧(∀ad,o.1=some ad→w.heap.size≤ad.block)∧At w' (pt o.1 (ofS s L).length) (cellsA (ofS s L)):=fun s=>by
   by_cases h:s∈keysP L
   ·obtain ⟨a1,c1,h2,h3,h4,h5⟩:=own_row (own_of_fact hM' (v:=f s) (e:=47) (size:=3) (n:=(ofS s L).length) (xs:=cellsA (ofS s L)) (.tail _ (List.mem_append_left _ (List.mem_map.2 ⟨s,h,rfl⟩))) (hB.tv s) (cellsA_length _))
    exact ⟨(a1,c1),h2,h3,h4,h5⟩
   ·refine ⟨(none,0),?_⟩
    rw [ofS_none h,hB.nil s h]
    exact ⟨rfl,⟨Nat.le_refl _,Nat.zero_le _,fun _=>⟨rfl,rfl⟩⟩,fun _ h=>(by cases h),fun g hg=>(by cases hg)⟩
  obtain ⟨o,ho⟩:=Classical.axiomOfChoice hch
  refine ⟨(g,o),fun s=>(ho s).2.1,rfl,hM'.below,fun φ hφ g' hg'=>?_⟩
  rcases List.mem_cons.1 hφ with rfl | hφ
  ·have em:bkM (keysP L) (fun s=>.slice (o s).1 (ofS s L).length (o s).2)=bkM (keysP L) f:=by
    unfold bkM
    exact List.map_congr_left fun s _=>by show (s,Value.slice (o s).1 (ofS s L).length (o s).2)=(s,f s);rw [← (ho s).1]
   cases hg'
   show _∧∃ob,w'.heap[g]?=some ob∧(mapF g (bkM (keysP L) (fun s=>.slice (o s).1 (ofS s L).length (o s).2))).holds ob
   rw [em]
   exact ⟨hg,(hM'.fact _ (.head _) g rfl).2⟩
  ·obtain ⟨s,hs1,rfl⟩:=List.mem_map.1 hφ
   refine ⟨?_,(ho s).2.2.2 g' hg'⟩
   have h5:=(ho s).2.2.1
   have h6:(pt (o s).1 (ofS s L).length).map (·.block)=some g':=hg'
   unfold pt at h6
   split at h6
   ·cases h6
   ·obtain ⟨ad,had,rfl⟩:=Option.map_eq_some_iff.1 h6
    exact h5 ad had
end Go.Proofs.YtfhgkkcpkcjbmaaGreatDoor.shard
namespace Go.Proofs.YtfhgkkcpkcjbmaaGreatDoor.shard
open Go.RowKit Sx txn queue greedy
theorem ofK_map {α β:Type} (f:α→Int) (g:β→Int) (h:α→β) (hf:∀x,g (h x)=f x) (k:Int) (l:List α):ofK g k (l.map h)=(ofK f k l).map h:=by
 unfold ofK
 rw [List.filter_map]
 congr 1
 exact List.filter_congr fun x _=>by simp [hf]
def getP (P:List PA) (s:Int):PA:=match ofK (fun x:PA=>x.1) s P with | []=>(s,0,[]) | x::_=>x
theorem getP_nil {L:List Ac} {s:Int} (h:ofS s L=[]):getP (L.map acP) s=(s,0,[]):=by
 unfold getP
 rw [ofK_map (fun x:Ac=>x.s) (fun x:PA=>x.1) acP (fun _=>rfl),show ofK (fun x:Ac=>x.s) s L=_ from h]
 rfl
theorem getP_cons {L:List Ac} {s:Int} {x:Ac} {r:List Ac} (h:ofS s L=x::r):getP (L.map acP) s=acP x:=by
 unfold getP
 rw [ofK_map (fun x:Ac=>x.s) (fun x:PA=>x.1) acP (fun _=>rfl),show ofK (fun x:Ac=>x.s) s L=_ from h]
 rfl
section
variable {W : World} {G : Option Nat} {Q : Ending → World → Prop} {ds : List Deferred}
theorem readP1 {ty:TypeId} {a:Option Addr} {n k j:Nat} {ad:Addr} {xs:List Value} {m:M} {K:Value→Tree} (v:Value) (hty:lk env.agg ty=some none) (hm:rowF (pt a n) xs∈m.facts) (hk:k<n) (ha:a.isSome=true) (hv:xs[j]?=some v) (haddr:ad=(a.getD ⟨0,0,none⟩).add j) (h:(K v).wpD Tryz.prog W G Q ds):(Tree.load ty ad m K).wpD Tryz.prog W G Q ds:=by
 obtain ⟨ad',rfl⟩:=Option.isSome_iff_exists.1 ha
 rw [pt_pos hk] at hm
 exact readC v hty hm hv haddr h
end
section
variable {P : Program} {W : World} {Q : Ending → World → Prop} {ds : List Deferred}
theorem meetBk {f:FuncId} {args:List Sx.T} {l:List Value} {m:M} {k:Value→List Fact→Tree} (L:List Ac) (hv:valsOf args=some l) (hc:callable P f=true)
  (hC:∀β ρ w,Mem W none m β ρ w→Calls P f (List.toArray l) w fun e w'=>∃i:Nat×(Int→One),(∀s,Sl (i.2 s).1 (ofS s L).length (i.2 s).2)∧Gives w w' e (.map (some i.1)) (bookF i.1 i.2 L))
  (h:∀(g:Nat) (o:Int→One),(∀s,Sl (o s).1 (ofS s L).length (o s).2)→(k (.map (some g)) (bookF g o L)).wpD P W none Q ds):(Tree.call f args m k).wpD P W none Q ds:=
 meetR (ι:=Nat×(Int→One)) (ok:=fun i=>∀s,Sl (i.2 s).1 (ofS s L).length (i.2 s).2) (v:=fun i=>.map (some i.1)) (fs:=fun i=>bookF i.1 i.2 L) hc (fun β ρ w vs hm hr=>by rw [valsOf_spec _ _ _ hv hr];exact hC β ρ w hm) (fun i hi=>h i.1 i.2 hi)
end
theorem get (v:Int) (L:List Ac) (a:Option Addr) (n c:Nat) (s:Int) (w:World) (hA:Acs w a n c L) (h1000:n≤1000000) :
  Calls Tryz.prog 125 (List.toArray [shV a n c v,.int .i64 s]) w fun e w'=>∃i:One,Sl i.1 (getP (L.map acP) s).2.2.length i.2∧Gives w w' e (acc (getP (L.map acP) s).1 (getP (L.map acP) s).2.1 i.1 (getP (L.map acP) s).2.2.length i.2) [rowF (pt i.1 (getP (L.map acP) s).2.2.length) (cellsL (getP (L.map acP) s).2.2)]:=by
 have hn:=hA.2.1
 refine calls_of_exec Sxs.env_ok.keeps Tryz.func125 rfl [] (schedQ_ok _ _ (by kernel_rfl)) (acsF a n L) hA.facts ?_
 conv=>arg 5;whnf
 refine meetBk (f:=179) L rfl (by kernel_rfl) (fun β ρ w' hM'=>bookOf L a n c w' (Mem.acs hA hM' fun φ hφ=>hφ) h1000) (fun g o ho=>?_)
 conv=>arg 5;whnf
 refine peek_lookup (z:=.slice none 0 0) (l:=bkM (keysP L) fun s=>.slice (o s).1 (ofS s L).length (o s).2) Tryz.underlying232 Tryz.underlying3 (fun w=>by kernel_rfl) (.head _) ?_
 by_cases hs:s∈keysP L
 ·have hlk:(lkM (bkM (keysP L) fun s=>.slice (o s).1 (ofS s L).length (o s).2) s).getD (.slice none 0 0)=.slice (o s).1 (ofS s L).length (o s).2:=by rw [lk_bkM,if_pos hs];rfl
  rw [show (if false=true then Value.tuple #[(lkM (bkM (keysP L) fun s=>.slice (o s).1 (ofS s L).length (o s).2) s).getD (.slice none 0 0),.bool (lkM (bkM (keysP L) fun s=>.slice (o s).1 (ofS s L).length (o s).2) s).isSome] else (lkM (bkM (keysP L) fun s=>.slice (o s).1 (ofS s L).length (o s).2) s).getD (.slice none 0 0))=.slice (o s).1 (ofS s L).length (o s).2 from hlk]
  have hmf:rowF (pt (o s).1 (ofS s L).length) (cellsA (ofS s L))∈bookF g o L++acsF a n L:=List.mem_append_left _ (.tail _ (List.mem_map.2 ⟨s,hs,rfl⟩))
  obtain ⟨x,r,hxr⟩:∃x r,ofS s L=x::r:=by
   obtain ⟨y,hy,hys⟩:=(keysP_mem L s).1 hs
   cases h:ofS s L with
   | nil=>
    have hm:y∈ofS s L:=by unfold ofS ofK;rw [List.mem_filter];exact ⟨hy,by simpa using hys⟩
    rw [h] at hm;cases hm
   | cons x r=>exact ⟨x,r,rfl⟩
  have hx0:(ofS s L)[0]?=some x:=by rw [hxr];rfl
  have hxm:x∈L:=(ofK_mem (f:=fun x:Ac=>x.s) (k:=s) (show x∈ofS s L by rw [hxr];exact List.mem_cons_self ..)).1
  have hlen:0<(ofS s L).length:=by rw [hxr];simp
  have hso:=ho s
  rw [getP_cons hxr]
  generalize ofS s L=ol at *
  obtain ⟨⟨xs,xn,xl,xd⟩,_⟩:=hA.2.2.2 x hxm
  have CP:=fun w hr=>copied x.s x.b x.l x.a x.n x.c w xs xn hr xl
  have hxF:acF x∈bookF g o L++acsF a n L:=List.mem_append_right _ (.tail _ (List.mem_map.2 ⟨x,hxm,rfl⟩))
  show Tree.wpD _ _ _ (fun e w'=>∃i:One,Sl i.1 x.l.length i.2∧Gives w w' e (acc x.s x.b i.1 x.l.length i.2) [rowF (pt i.1 x.l.length) (cellsL x.l)]) _ _
  rw [← xn]
  conv=>arg 5;whnf
  refine wp_br (fun h=>by have h2:((ol.length:Int)==0)=true:=h;rw [beq_iff_eq] at h2;omega) (fun h=>?_)
  conv=>arg 5;whnf
  refine wp_must ⟨by omega,by show (0:Int)<(ol.length:Int);omega,hso.some hlen⟩ ?_
  conv=>arg 5;whnf
  refine readG Sxs.env_ok (vs:=x.cs) (sz:=3) (k:=0) rfl rfl hmf hlen (hso.some hlen) (cellsA_at hx0) rfl ?_
  conv=>arg 5;whnf
  refine meet1F (f:=182) (n:=x.n) (v:=fun a1 c1=>acc x.s x.b a1 x.n c1) (xs:=cellsL x.l) rfl (by kernel_rfl) (fun β ρ w' hM'=>CP w' (hM'.at_ hxF)) (fun y c_y h_y f_y=>?_)
  conv=>arg 5;whnf
  refine wp_back fun β ρ w' hM'=>⟨(y,c_y),h_y,rfl,hM'.below,fun φ hφ g' hg'=>?_⟩
  simp only [List.mem_singleton] at hφ
  subst hφ
  exact ⟨f_y g' hg',hM'.at_ (.head _) g' hg'⟩
 ·have hlk:(lkM (bkM (keysP L) fun s=>.slice (o s).1 (ofS s L).length (o s).2) s).getD (.slice none 0 0)=.slice none 0 0:=by rw [lk_bkM,if_neg hs];rfl
  rw [show (if false=true then Value.tuple #[(lkM (bkM (keysP L) fun s=>.slice (o s).1 (ofS s L).length (o s).2) s).getD (.slice none 0 0),.bool (lkM (bkM (keysP L) fun s=>.slice (o s).1 (ofS s L).length (o s).2) s).isSome] else (lkM (bkM (keysP L) fun s=>.slice (o s).1 (ofS s L).length (o s).2) s).getD (.slice none 0 0))=.slice none 0 0 from hlk,getP_nil (ofS_none hs)]
  conv=>arg 5;whnf
  exact wp_back fun β ρ w' hM'=>⟨(none,0),⟨Nat.le_refl _,Nat.zero_le _,fun _=>⟨rfl,rfl⟩⟩,rfl,hM'.below,fun φ hφ g' hg'=>by simp only [List.mem_singleton] at hφ;subst hφ;cases hg'⟩
end Go.Proofs.YtfhgkkcpkcjbmaaGreatDoor.shard
namespace Go.Proofs.YtfhgkkcpkcjbmaaGreatDoor.shard
open Go.RowKit Sx txn queue greedy
structure Shd where
 a:Option Addr
 n:Nat
 c:Nat
 L:List Ac
 v:Int
def Shd.cs (q:Shd):List Value:=[.slice q.a q.n q.c,.int .i64 q.v]
def cellsS (S:List Shd):List Value:=S.flatMap Shd.cs
theorem cellsS_at {S:List Shd} {k:Nat} {q:Shd} (h:S[k]?=some q):∀(j:Nat) (u:Value),q.cs[j]?=some u→(cellsS S)[k*2+j]?=some u:=by
 induction S generalizing k with
 | nil=>simp at h
 | cons y S ih=>
  intro j u hu
  unfold cellsS
  rw [List.flatMap_cons]
  cases k with
  | zero=>
   simp at h;subst h
   have hj:j<y.cs.length:=(List.getElem?_eq_some_iff.1 hu).1
   rw [Nat.zero_mul,Nat.zero_add,List.getElem?_append_left hj];exact hu
  | succ k=>
   have:=ih (by simpa using h) j u hu
   rw [show (k+1)*2+j=y.cs.length+(k*2+j) from by show _=2+_;omega,List.getElem?_append_right (Nat.le_add_right _ _),Nat.add_sub_cancel_left]
   exact this
theorem cellsS_app (S:List Shd) (q:Shd):cellsS (S++[q])=cellsS S++q.cs:=by simp [cellsS]
end Go.Proofs.YtfhgkkcpkcjbmaaGreatDoor.shard
namespace Go.Proofs.YtfhgkkcpkcjbmaaGreatDoor.shard
open Go.RowKit Sx txn queue greedy
section
variable {W : World} {G : Option Nat} {Q : Ending → World → Prop} {ds : List Deferred}
theorem readF {ty:TypeId} {ad:Option Addr} {xs:List Value} {k sz f n:Nat} {m:M} {K:Value→Tree} {a:Addr} (v:Value) (hty:lk env.agg ty=some none) (hm:rowF (pt ad n) xs∈m.facts) (hk:k<n) (ha:ad.isSome=true) (hv:xs[k*sz+f]?=some v)
  (haddr:a=((ad.getD ⟨0,0,none⟩).add (k*sz)).add f) (h:(K v).wpD Tryz.prog W G Q ds):(Tree.load ty a m K).wpD Tryz.prog W G Q ds:=by
 rw [pt_pos hk] at hm
 refine ⟨v,fun β ρ w hM=>?_,h⟩
 cases ad with
 | none=>cases ha
 | some ad=>
  have hc:=(hM.at_ hm).cell hv
  have e:a=ad.add (k*sz+f):=by
   rw [haddr]
   simp only [Option.getD_some]
   obtain ⟨b,o,sp⟩:=ad
   unfold Addr.add
   by_cases h1:k*sz=0 <;> by_cases h2:f=0 <;> simp [h1,h2,Nat.add_assoc]
  rw [env_ok.agg1 ty hty]
  rw [e]
  simp [load,Sem.run,hc]
end
end Go.Proofs.YtfhgkkcpkcjbmaaGreatDoor.shard
namespace Go.Proofs.YtfhgkkcpkcjbmaaGreatDoor.shard
open Go.RowKit Sx txn queue greedy
theorem acP_get {L1 L2:List Ac} (h:L1.map acP=L2.map acP) {k:Nat} {x y:Ac} (hx:L1[k]?=some x) (hy:L2[k]?=some y):x.s=y.s∧x.b=y.b∧x.l=y.l:=by
 have h1:=congrArg (fun l=>l[k]?) h
 simp only [List.getElem?_map,hx,hy,Option.map_some,Option.some.injEq,acP,Prod.mk.injEq] at h1
 exact h1
theorem raccounts (L1 L2:List Ac) (heq:L1.map acP=L2.map acP) (a1:Option Addr) (n1 c1:Nat) (a2:Option Addr) (n2 c2:Nat) (w:World) (h1:Acs w a1 n1 c1 L1) (h2:Acs w a2 n2 c2 L2) :
  Calls Tryz.prog 26 (List.toArray [.slice a1 n1 c1,.slice a2 n2 c2]) w fun e w'=>e=.returned (.bool true)∧Below w.heap.size w w':=by
 have h1A:=h1
 have h2A:=h2
 have hs1:=h1.1
 have hs2:=h2.1
 have hl:L1.length=L2.length:=by have:=congrArg List.length heq;simpa using this
 have hn1:=h1.2.1
 have hn2:=h2.2.1
 obtain rfl:n2=n1:=by omega
 have hn63:=hs1.le
 refine calls_of_exec Sxs.env_ok.keeps Tryz.func26 rfl [(6,(line [0,1,2,3,4,5,6,7,8,9],[]))] (schedQ_ok _ _ (by kernel_rfl)) (acsF a1 n2 L1++acsF a2 n2 L2) (fun φ hφ g hg=>(List.mem_append.1 hφ).elim (fun h=>h1.facts φ h g hg) fun h=>h2.facts φ h g hg) ?_
 conv=>arg 5;whnf
 refine wp_br (fun h=>absurd h (by simp)) (fun h=>?_)
 conv=>arg 5;whnf
 refine loop_rule Sxs.env_ok.keeps [(6,(line [0,1,2,3,4,5,6,7,8,9],[]))] (schedQ_ok _ _ (by kernel_rfl)) (fun k:Nat=>k≤n2) (fun k=>(⟨[],[],acsF a1 n2 L1++acsF a2 n2 L2⟩,[.v (.slice a1 n2 c1),.v (.slice a2 n2 c2),.any,.any,.any,.v (.int .i64 k),.any,.any,.any,.any,.any,.any,.any,.any,.any,.any,.any,.any,.any,.any,.any,.any,.any,.any,.any,.any,.any])) (fun k=>n2 - k) 0 (Nat.zero_le _) ⟨by repeat' first | exact trivial | refine ⟨.inl rfl,?_⟩ | refine ⟨.inr rfl,?_⟩,⟨by repeat' first | exact trivial | refine ⟨.inl rfl,?_⟩ | refine ⟨.inr rfl,?_⟩,by repeat' first | exact trivial | refine ⟨.inl rfl,?_⟩ | refine ⟨.inr rfl,?_⟩,fun _ h=>h⟩,rfl⟩ ?_
 intro k hk
 conv=>arg 5;whnf
 refine wp_br (fun h1=>?_) (fun h1=>?_)
 ·have hlt:k<n2:=by have h3:=of_decide_eq_true (show decide ((k:Int)<(n2:Int))=true from h1);omega
  obtain ⟨x,hx⟩:∃x,L1[k]?=some x:=⟨_,List.getElem?_eq_getElem (by omega)⟩
  obtain ⟨y,hy⟩:∃y,L2[k]?=some y:=⟨_,List.getElem?_eq_getElem (by omega)⟩
  have hxm:=List.mem_of_getElem? hx
  have hym:=List.mem_of_getElem? hy
  obtain ⟨⟨xs,xn,xl,xd⟩,_⟩:=h1A.2.2.2 x hxm
  obtain ⟨⟨ys,yn,yl,yd⟩,_⟩:=h2A.2.2.2 y hym
  obtain ⟨e1,e2,e3⟩:=acP_get heq hx hy
  have hma1:rowF (pt a1 n2) (cellsA L1)∈acsF a1 n2 L1++acsF a2 n2 L2:=List.mem_append_left _ (.head _)
  have hma2:rowF (pt a2 n2) (cellsA L2)∈acsF a1 n2 L1++acsF a2 n2 L2:=List.mem_append_right _ (.head _)
  have hmx:rowF (pt x.a x.n) (cellsL x.l)∈acsF a1 n2 L1++acsF a2 n2 L2:=List.mem_append_left _ (.tail _ (List.mem_map.2 ⟨x,hxm,rfl⟩))
  have hmy:rowF (pt y.a y.n) (cellsL y.l)∈acsF a1 n2 L1++acsF a2 n2 L2:=List.mem_append_right _ (.tail _ (List.mem_map.2 ⟨y,hym,rfl⟩))
  have e4:y.n=x.n:=by rw [yn,xn,e3]
  have ys':Sl y.a x.n y.c:=e4▸ys
  have SM:=fun w hr hr2=>queue.rsame x.s x.b x.l x.a x.n x.c y.a y.c w xs xn hr ys' hr2
  conv=>arg 5;whnf
  refine wp_must ⟨by omega,by show (k:Int)<(n2:Int);omega,hs1.some hlt⟩ ?_
  conv=>arg 5;whnf
  refine readG Sxs.env_ok (vs:=x.cs) (sz:=3) (k:=k) rfl rfl hma1 hlt (hs1.some hlt) (cellsA_at hx) rfl ?_
  conv=>arg 5;whnf
  refine wp_must ⟨by omega,by show (k:Int)<(n2:Int);omega,hs2.some hlt⟩ ?_
  conv=>arg 5;whnf
  refine readG Sxs.env_ok (vs:=y.cs) (sz:=3) (k:=k) rfl rfl hma2 hlt (hs2.some hlt) (cellsA_at hy) rfl ?_
  conv=>arg 5;whnf
  refine meetc (f:=65) (v:=.bool true) rfl (by kernel_rfl) (fun β ρ w' hM'=>?_) ?_
  ·have hr1:=hM'.at_ hmx
   have hr2:=hM'.at_ hmy
   rw [e4,← e3] at hr2
   have h9:=SM w' hr1 hr2
   have ev:acc x.s x.b y.a x.n y.c=.agg y.cs.toArray:=by rw [e1,e2,← e4];rfl
   rw [ev] at h9
   exact h9
  conv=>arg 5;whnf
  refine wp_must ⟨by show -9223372036854775808≤(k:Int)+1;omega,by show (k:Int)+1≤9223372036854775807;omega⟩ ?_
  conv=>arg 5;whnf
  refine wp_end ⟨k+1,hlt,⟨by repeat' first | exact trivial | refine ⟨.inl rfl,?_⟩ | refine ⟨.inr rfl,?_⟩,⟨by repeat' first | exact trivial | refine ⟨.inl rfl,?_⟩ | refine ⟨.inr rfl,?_⟩,by repeat' first | exact trivial | refine ⟨.inl rfl,?_⟩ | refine ⟨.inr rfl,?_⟩,fun _ h=>h⟩,rfl⟩,by show n2 - (k+1)<n2 - k;omega⟩
 ·skip
  conv=>arg 5;whnf
  exact wp_back fun β ρ w' hM'=>⟨rfl,hM'.below⟩
theorem own (S:List Shd) (a:Option Addr) (n c:Nat) (w:World) (hs:Sl a n c) (hn:n=S.length) (hrow:At w (pt a n) (cellsS S)) (h1000:n≤1000000) :
  Calls Tryz.prog 61 (List.toArray [.slice a n c]) w fun e w'=>∃i:One,Sl i.1 n i.2∧Gives w w' e (.slice i.1 n i.2) [rowF (pt i.1 n) (cellsS S)]:=by
 have hn63:=hs.le
 refine calls_of_exec Sxs.env_ok.keeps Tryz.func61 rfl [] (schedQ_ok _ _ (by kernel_rfl)) [rowF (pt a n) (cellsS S)] (at1 hrow) ?_
 conv=>arg 5;whnf
 refine loop_nil 3 125 2 rfl ?_
 refine loop_ruleE Sxs.env_ok.keeps [] (schedQ_ok _ _ (by kernel_rfl)) [0] (fun k:Nat=>k≤n) (fun k=>(⟨[],[some ⟨125,2,k,cellsS (S.take k)⟩],[rowF (pt a n) (cellsS S)]⟩,[.v (.slice a n c),.any,.any,.r 0,.v (.int .i64 k),.any,.any,.any,.any,.any,.any,.any,.any,.any,.any,.any,.any,.any,.any])) (fun k=>n - k) 0 (Nat.zero_le _) ⟨by repeat' first | exact trivial | refine ⟨.inl rfl,?_⟩ | refine ⟨.inr rfl,?_⟩,⟨by repeat' first | exact trivial | refine ⟨.inl rfl,?_⟩ | refine ⟨.inr rfl,?_⟩,by repeat' first | exact trivial | refine ⟨.inl rfl,?_⟩ | refine ⟨.inr rfl,?_⟩,fun _ h=>h⟩,rfl⟩ ?_
 intro k hk
 conv=>arg 5;whnf
 refine wp_br (fun h1=>?_) (fun h1=>?_)
 ·have hlt:k<n:=by have h3:=of_decide_eq_true (show decide ((k:Int)<(n:Int))=true from h1);omega
  obtain ⟨q,hq⟩:∃q,S[k]?=some q:=⟨_,List.getElem?_eq_getElem (by omega)⟩
  have ec:cellsS (S.take (k+1))=cellsS (S.take k)++q.cs:=by rw [List.take_add_one,hq];exact cellsS_app _ _
  conv=>arg 5;whnf
  refine wp_must ⟨by omega,by show (k:Int)<(n:Int);omega,hs.some hlt⟩ ?_
  conv=>arg 5;whnf
  refine readG Sxs.env_ok (vs:=q.cs) (sz:=2) (k:=k) rfl rfl (.head _) hlt (hs.some hlt) (cellsS_at hq) rfl ?_
  conv=>arg 5;whnf
  refine wp_must ⟨by show k+1≤maxLen;unfold maxLen;omega,by show (k+1)*32≤140737488355328;omega⟩ ?_
  conv=>arg 5;whnf
  refine wp_must ⟨by show -9223372036854775808≤(k:Int)+1;omega,by show (k:Int)+1≤9223372036854775807;omega⟩ ?_
  conv=>arg 5;whnf
  refine wp_end ⟨k+1,hlt,⟨by repeat' first | exact trivial | refine ⟨.inl rfl,?_⟩ | refine ⟨.inr rfl,?_⟩,⟨by repeat' first | exact trivial | refine ⟨.inl rfl,?_⟩ | refine ⟨.inr rfl,?_⟩,by rw [ec];repeat' first | exact trivial | refine ⟨.inl rfl,?_⟩ | refine ⟨.inr rfl,?_⟩,fun _ h=>h⟩,rfl⟩,by show n - (k+1)<n - k;omega⟩
 ·have hkn:k=n:=by have h3:=of_decide_eq_false (show decide ((k:Int)<(n:Int))=false from h1);omega
  have e:S.take k=S:=List.take_of_length_le (by omega)
  rw [e]
  conv=>arg 5;whnf
  refine wp_share fun u c_u h_u f_u=>?_
  rw [← hkn]
  conv=>arg 5;whnf
  refine wp_back fun β ρ w' hM'=>⟨(u,c_u),h_u,rfl,hM'.below,fun φ hφ=>?_⟩
  simp only [List.mem_singleton] at hφ
  subst hφ
  exact giveF _ hM' (.head _) f_u
end Go.Proofs.YtfhgkkcpkcjbmaaGreatDoor.shard
namespace Go.Proofs.YtfhgkkcpkcjbmaaGreatDoor.fnv
open Go.RowKit
def shardV (s n:Int):Int:=if 0≤s∧s≤255∧1≤n∧n≤8 then hof [UInt8.ofNat s.toNat] % n else -1
theorem shard_no (s n:Int) (w:World) (h:s<0∨255<s∨n<1∨8<n) :
  Calls Tryz.prog 174 #[.int .i64 s,.int .i64 n] w fun e w'=>e=.returned (.int .i64 (-1))∧w=w':=by
 have h':s<0∨(0≤s∧255<s)∨(0≤s∧s≤255∧n<1)∨(0≤s∧s≤255∧1≤n∧8<n):=by omega
 clear h
 rcases h' with h | ⟨h,h1⟩ | ⟨h,h1,h2⟩ | ⟨h,h1,h2,h3⟩
 all_goals
  go_enter Tryz.func174,Tryz.ntmps174
  go_wp2_with fail
  go_ret
  exact ⟨rfl,rfl⟩
theorem one_string (b:UInt8) (w:World) :
  (convert 211 9 (.slice (some ⟨w.heap.size,0,none⟩) 1 1)).run Tryz.prog (w.alloc (.cells #[.int .u8 b.toNat] 5 (0,0)))=.ok (.string ⟨#[b]⟩) (w.alloc (.cells #[.int .u8 b.toNat] 5 (0,0))):=
 to_string (l:=[b]) (t:=5) (by show (w.heap.push _)[w.heap.size]?=_;simp [cellsOf]) 1 1 rfl
theorem shard_in (b:UInt8) (n:Int) (w:World) (h0:1≤n) (h1:n≤8) :
  Calls Tryz.prog 174 #[.int .i64 b.toNat,.int .i64 n] w fun e w'=>e=.returned (.int .i64 (hof [b] % n))∧Below w.heap.size w w':=by
 have hb:(b.toNat:Int)≤255:=by have:=b.toNat_lt;omega
 have hv:=one_string b w
 have hd:=hstep_bd 14695981039346656037 b
 have hof':hof [b]=hstep 14695981039346656037 b:=rfl
 have ho:∀w,Calls Tryz.prog 220 #[.string ⟨#[b]⟩] w fun e w'=>e=.returned (.int .u64 (hof [b]))∧w=w':=fun w=>of_any ⟨#[b]⟩ w (by show 1≤2 ^ 63 - 1;decide)
 have HO:=Lib.hid ho
 rw [hof'] at HO ⊢
 clear ho hof'
 generalize hstep 14695981039346656037 b=v at hd HO ⊢
 have c2:v % n≤9223372036854775807:=by have:=Int.emod_lt_of_pos v (show 0<n by omega);omega
 have c3:0≤v % n:=Int.emod_nonneg _ (by omega)
 go_enter Tryz.func174,Tryz.ntmps174
 go_wp2_with fail
 refine (HO.out _).mono ?_
 rintro e w' ⟨rfl,rfl⟩
 go_wp2_with fail
 go_ret
 exact ⟨rfl,(Below.refl _ _).alloc (Nat.le_refl _) _⟩
theorem shard_any (s n:Int) (w:World) :
  Calls Tryz.prog 174 #[.int .i64 s,.int .i64 n] w fun e w'=>e=.returned (.int .i64 (shardV s n))∧Below w.heap.size w w':=by
 unfold shardV
 by_cases h:0≤s∧s≤255∧1≤n∧n≤8
 ·rw [if_pos h]
  obtain ⟨h0,h1,h2,h3⟩:=h
  have e:s=((UInt8.ofNat s.toNat).toNat:Int):=by
   rw [UInt8.toNat_ofNat']
   omega
  generalize UInt8.ofNat s.toNat=b at e ⊢
  subst e
  exact shard_in b n w h2 h3
 ·rw [if_neg h]
  exact (shard_no s n w (by omega)).mono fun e w' ⟨he,hw⟩=>⟨he,hw▸Below.refl _ _⟩
end Go.Proofs.YtfhgkkcpkcjbmaaGreatDoor.fnv
namespace Go.Proofs.YtfhgkkcpkcjbmaaGreatDoor.shard
open Go.RowKit Sx txn queue greedy
def okI (P:List PA) (k sh per:Int) (i:Nat):Bool:=
 match P[i]? with
 | none=>true
 | some x=>(match i with | 0=>true | j+1=>match P[j]? with | some y=>decide (y.1<x.1) | none=>true)&&checkV x.1 x.2.1 per x.2.2 && !emptyV x.2.1 x.2.2.length&&(fnv.shardV x.1 sh==k)
def shOk (P:List PA) (k sh per:Int):Bool:=(List.range P.length).all (okI P k sh per)
def shCheck (v:Int) (P:List PA) (k sh per:Int):Bool:=decide (0≤v)&&decide (v≤1099511627776)&&shOk P k sh per
theorem shOk_false {P:List PA} {k sh per:Int} {i:Nat} (h:okI P k sh per i=false):shOk P k sh per=false:=by
 have hi:i<P.length:=by
  rcases Nat.lt_or_ge i P.length with h1 | h1
  ·exact h1
  ·unfold okI at h;rw [List.getElem?_eq_none h1] at h;cases h
 unfold shOk
 rw [List.all_eq_false]
 exact ⟨i,List.mem_range.2 hi,by rw [h];simp⟩
theorem okI_zero {P:List PA} {k sh per:Int} {x:PA} (h:P[0]?=some x):okI P k sh per 0=(checkV x.1 x.2.1 per x.2.2 && !emptyV x.2.1 x.2.2.length&&(fnv.shardV x.1 sh==k)):=by unfold okI;rw [h];simp
theorem okI_succ {P:List PA} {k sh per:Int} {j:Nat} {x y:PA} (h:P[j+1]?=some x) (hy:P[j]?=some y):okI P k sh per (j+1)=(decide (y.1<x.1)&&checkV x.1 x.2.1 per x.2.2 && !emptyV x.2.1 x.2.2.length&&(fnv.shardV x.1 sh==k)):=by unfold okI;rw [h];simp only [hy]
def cfgV (sh so hd per bp fd wk rm:Int):Value:=.agg #[.int .i64 sh,.int .i64 so,.int .i64 hd,.int .i64 per,.int .i64 bp,.int .i64 fd,.int .i64 wk,.int .i64 rm]
theorem check (v:Int) (L:List Ac) (a:Option Addr) (n c:Nat) (K sh so hd per bp fd wk rm:Int) (w:World) (hM:Most w) (hA:Acs w a n c L) (h1000:n≤1000000) :
  Calls Tryz.prog 115 (List.toArray [shV a n c v,.int .i64 K,cfgV sh so hd per bp fd wk rm]) w fun e w'=>e=.returned (.bool (shCheck v (L.map acP) K sh per))∧Below w.heap.size w w':=by
 have hs:=hA.1
 have hn:=hA.2.1
 have hn63:=hs.le
 have bad:shCheck v (L.map acP) K sh per=false→Ending.returned (tup [Value.bool false])=.returned (.bool (shCheck v (L.map acP) K sh per)):=fun h=>by rw [h];rfl
 refine calls_of_exec Sxs.env_ok.keeps Tryz.func115 rfl [(6,(line [0,1,2,3,4,5,6,7,8,9,10,11,12,13],[]))] (schedQ_ok _ _ (by kernel_rfl)) (acsF a n L) hA.facts ?_
 conv=>arg 5;whnf
 refine wp_g0 (fun h1=>?_) (fun h1=>?_)
 rotate_left
 ·have h2:v<0:=of_decide_eq_true h1
  conv=>arg 5;whnf
  exact wp_back fun β ρ w' hM'=>⟨bad (by unfold shCheck;rw [decide_eq_false (by omega)];rfl),hM'.below⟩
 have hv0:0≤v:=by have h2:¬ v<0:=of_decide_eq_false h1;omega
 conv=>arg 5;whnf
 refine wp_br (fun h1=>?_) (fun h1=>?_)
 ·have h2:1099511627776<v:=of_decide_eq_true h1
  conv=>arg 5;whnf
  exact wp_back fun β ρ w' hM'=>⟨bad (by unfold shCheck;rw [decide_eq_false (show ¬ v≤1099511627776 by omega)];simp),hM'.below⟩
 have hv1:v≤1099511627776:=by have h2:¬ 1099511627776<v:=of_decide_eq_false h1;omega
 have hsh:shCheck v (L.map acP) K sh per=shOk (L.map acP) K sh per:=by unfold shCheck;rw [decide_eq_true hv0,decide_eq_true hv1];rfl
 rw [hsh] at bad ⊢
 clear h1 hsh
 conv=>arg 5;whnf
 refine loop_ruleE Sxs.env_ok.keeps [(6,(line [0,1,2,3,4,5,6,7,8,9,10,11,12,13],[]))] (schedQ_ok _ _ (by kernel_rfl)) [2] (fun k:Nat=>k≤n∧(List.range k).all (okI (L.map acP) K sh per)=true) (fun k=>(⟨[some ([.v (.slice a n c),.v (.int .i64 v)],125),some ([.v (.int .i64 sh),.v (.int .i64 so),.v (.int .i64 hd),.v (.int .i64 per),.v (.int .i64 bp),.v (.int .i64 fd),.v (.int .i64 wk),.v (.int .i64 rm)],23)],[],acsF a n L⟩,[.any,.v (.int .i64 K),.any,.p 0 0,.any,.p 1 0,.any,.any,.any,.any,.any,.any,.any,.any,.any,.any,.any,.any,.v (.slice a n c),.v (.int .i64 n),.v (.int .i64 k),.any,.any,.any,.any,.any,.any,.any,.any,.any,.any,.any,.any,.any,.any,.any,.any,.any,.any,.any,.any,.any,.any,.any,.any,.any,.any,.any,.any,.any,.any,.any,.any,.any,.any,.any,.any,.any])) (fun k=>n - k) 0 ⟨Nat.zero_le _,rfl⟩ ⟨by repeat' first | exact trivial | refine ⟨.inl rfl,?_⟩ | refine ⟨.inr rfl,?_⟩,⟨by repeat' first | exact trivial | refine ⟨.inl rfl,?_⟩ | refine ⟨.inr rfl,?_⟩,by repeat' first | exact trivial | refine ⟨.inl rfl,?_⟩ | refine ⟨.inr rfl,?_⟩,fun _ h=>h⟩,rfl⟩ ?_
 rintro k ⟨hk,hok⟩
 conv=>arg 5;whnf
 refine wp_br (fun h1=>?_) (fun h1=>?_)
 ·have hlt:k<n:=by have h3:=of_decide_eq_true (show decide ((k:Int)<(n:Int))=true from h1);omega
  obtain ⟨x,hx⟩:∃x,L[k]?=some x:=⟨_,List.getElem?_eq_getElem (by omega)⟩
  have hxm:x∈L:=List.mem_of_getElem? hx
  obtain ⟨⟨xs,xn,xl,xd⟩,_⟩:=hA.2.2.2 x hxm
  have hxP:(L.map acP)[k]?=some (acP x):=by rw [List.getElem?_map,hx];rfl
  have CK:=fun w hM hr=>check_ x.s x.b per x.l x.a x.n x.c w hM xs xn hr
  have EM:=fun w=>empty x.s x.b x.a x.n x.c w
  rw [xn] at EM
  have SH:=fun w=>fnv.shard_any x.s sh w
  have REST:∀(pre:Bool),(pre=true→okI (L.map acP) K sh per k=(checkV x.s x.b per x.l && !emptyV x.b x.l.length&&(fnv.shardV x.s sh==K)))→(pre=false→okI (L.map acP) K sh per k=false)→True:=fun _ _ _=>trivial
  clear REST
  conv=>arg 5;whnf
  refine wp_must ⟨by omega,by show (k:Int)<(n:Int);omega,hs.some hlt⟩ ?_
  conv=>arg 5;whnf
  refine readG Sxs.env_ok (vs:=x.cs) (sz:=3) (k:=k) rfl rfl (.head _) hlt (hs.some hlt) (cellsA_at hx) rfl ?_
  conv=>arg 5;whnf
  refine wp_g1 (fun h2=>?_) (fun h2=>?_)
  ·have hk0:0<k:=by have h3:(0:Int)<(k:Int):=of_decide_eq_true h2;omega
   obtain ⟨y,hy⟩:∃y,L[k - 1]?=some y:=⟨_,List.getElem?_eq_getElem (by omega)⟩
   have hyP:(L.map acP)[k - 1]?=some (acP y):=by rw [List.getElem?_map,hy];rfl
   obtain ⟨j,rfl⟩:∃j,k=j+1:=⟨k - 1,by omega⟩
   have hS:=okI_succ (k:=K) (sh:=sh) (per:=per) hxP hyP
   conv=>arg 5;whnf
   refine wp_must ⟨by show -9223372036854775808≤((j+1:Nat):Int) - 1;omega,by show ((j+1:Nat):Int) - 1≤9223372036854775807;omega⟩ ?_
   conv=>arg 5;whnf
   refine wp_must ⟨by show 0≤((j+1:Nat):Int) - 1;omega,by show ((j+1:Nat):Int) - 1<(n:Int);omega,hs.some (show j<n by omega)⟩ ?_
   conv=>arg 5;whnf
   refine readF (sz:=3) (k:=j) (f:=0) (.int .i64 y.s) rfl (.head _) (show j<n by omega) (hs.some (show j<n by omega)) (cellsA_at hy 0 _ rfl) (by rw [show (((j+1:Nat):Int) - 1).toNat=j by omega]) ?_
   conv=>arg 5;whnf
   refine wp_br (fun h3=>?_) (fun h3=>?_)
   ·have h4:x.s≤y.s:=of_decide_eq_true h3
    have hb:okI (L.map acP) K sh per (j+1)=false:=by rw [hS,decide_eq_false (show ¬ (acP y).1<(acP x).1 from by show ¬ y.s<x.s;omega)];simp
    conv=>arg 5;whnf
    exact wp_back fun β ρ w' hM'=>⟨bad (shOk_false hb),hM'.below⟩
   ·have h4:¬ x.s≤y.s:=of_decide_eq_false h3
    have hokk:=show okI (L.map acP) K sh per (j+1)=(checkV x.s x.b per x.l && !emptyV x.b x.l.length&&(fnv.shardV x.s sh==K)) from by rw [hS,decide_eq_true (show (acP y).1<(acP x).1 from by show y.s<x.s;omega),Bool.true_and];rfl
    have hall:∀b,okI (L.map acP) K sh per (j+1)=b→(List.range (j+1+1)).all (okI (L.map acP) K sh per)=b:=fun b hb=>by rw [List.range_succ,List.all_append,hok,Bool.true_and];simp [hb]
    generalize checkV x.s x.b per x.l=ck at *
    generalize emptyV x.b x.l.length=em at *
    generalize fnv.shardV x.s sh=sv at *
    conv=>arg 5;whnf
    refine meetc (f:=172) (v:=.bool ck) rfl (by kernel_rfl) (fun β ρ w' hM'=>CK w' (hM.later hM'.below) (hM'.at_ (.tail _ (List.mem_map.2 ⟨x,hxm,rfl⟩)))) ?_
    cases ck with
    | false=>
     conv=>arg 5;whnf
     exact wp_back fun β ρ w' hM'=>⟨bad (shOk_false (i:=j+1) (by rw [hokk];simp)),hM'.below⟩
    | true=>
     conv=>arg 5;whnf
     refine meetc (f:=173) (v:=.bool em) rfl (by kernel_rfl) (fun β ρ w' hM'=>(by rw [xn];exact EM w')) ?_
     cases em with
     | true=>
      conv=>arg 5;whnf
      exact wp_back fun β ρ w' hM'=>⟨bad (shOk_false (i:=j+1) (by rw [hokk];simp)),hM'.below⟩
     | false=>
      conv=>arg 5;whnf
      refine meetc (f:=174) (v:=.int .i64 sv) rfl (by kernel_rfl) (fun β ρ w' hM'=>SH w') ?_
      conv=>arg 5;whnf
      refine wp_br (fun h9=>?_) (fun h9=>?_)
      ·have h8:(sv==K)=false:=by have:(!(sv==K))=true:=h9;simpa using this
       conv=>arg 5;whnf
       exact wp_back fun β ρ w' hM'=>⟨bad (shOk_false (i:=j+1) (by rw [hokk,h8];simp)),hM'.below⟩
      ·have h8:(sv==K)=true:=by have:(!(sv==K))=false:=h9;simpa using this
       conv=>arg 5;whnf
       refine wp_must ⟨by show -9223372036854775808≤((j+1:Nat):Int)+1;omega,by show ((j+1:Nat):Int)+1≤9223372036854775807;omega⟩ ?_
       conv=>arg 5;whnf
       refine wp_end ⟨j+1+1,⟨hlt,hall true (by rw [hokk,h8];simp)⟩,⟨by repeat' first | exact trivial | refine ⟨.inl rfl,?_⟩ | refine ⟨.inr rfl,?_⟩,⟨by repeat' first | exact trivial | refine ⟨.inl rfl,?_⟩ | refine ⟨.inr rfl,?_⟩,by repeat' first | exact trivial | refine ⟨.inl rfl,?_⟩ | refine ⟨.inr rfl,?_⟩,fun _ h=>h⟩,rfl⟩,by show n - (j+1+1)<n - (j+1);omega⟩
  ·have hk0:k=0:=by have h3:¬ (0:Int)<(k:Int):=of_decide_eq_false h2;omega
   subst hk0
   have hokk:=okI_zero (k:=K) (sh:=sh) (per:=per) hxP
   have hokk:okI (L.map acP) K sh per 0=(checkV x.s x.b per x.l && !emptyV x.b x.l.length&&(fnv.shardV x.s sh==K)):=hokk
   have hall:∀b,okI (L.map acP) K sh per 0=b→(List.range (0+1)).all (okI (L.map acP) K sh per)=b:=fun b hb=>by rw [List.range_succ,List.all_append,hok,Bool.true_and];simp [hb]
   generalize checkV x.s x.b per x.l=ck at *
   generalize emptyV x.b x.l.length=em at *
   generalize fnv.shardV x.s sh=sv at *
   conv=>arg 5;whnf
   refine meetc (f:=172) (v:=.bool ck) rfl (by kernel_rfl) (fun β ρ w' hM'=>CK w' (hM.later hM'.below) (hM'.at_ (.tail _ (List.mem_map.2 ⟨x,hxm,rfl⟩)))) ?_
   cases ck with
   | false=>
    conv=>arg 5;whnf
    exact wp_back fun β ρ w' hM'=>⟨bad (shOk_false (i:=0) (by rw [hokk];simp)),hM'.below⟩
   | true=>
    conv=>arg 5;whnf
    refine meetc (f:=173) (v:=.bool em) rfl (by kernel_rfl) (fun β ρ w' hM'=>(by rw [xn];exact EM w')) ?_
    cases em with
    | true=>
     conv=>arg 5;whnf
     exact wp_back fun β ρ w' hM'=>⟨bad (shOk_false (i:=0) (by rw [hokk];simp)),hM'.below⟩
    | false=>
     conv=>arg 5;whnf
     refine meetc (f:=174) (v:=.int .i64 sv) rfl (by kernel_rfl) (fun β ρ w' hM'=>SH w') ?_
     conv=>arg 5;whnf
     refine wp_br (fun h9=>?_) (fun h9=>?_)
     ·have h8:(sv==K)=false:=by have:(!(sv==K))=true:=h9;simpa using this
      conv=>arg 5;whnf
      exact wp_back fun β ρ w' hM'=>⟨bad (shOk_false (i:=0) (by rw [hokk,h8];simp)),hM'.below⟩
     ·have h8:(sv==K)=true:=by have:(!(sv==K))=false:=h9;simpa using this
      conv=>arg 5;whnf
      refine wp_must ⟨by show -9223372036854775808≤((0:Nat):Int)+1;omega,by show ((0:Nat):Int)+1≤9223372036854775807;omega⟩ ?_
      conv=>arg 5;whnf
      refine wp_end ⟨0+1,⟨hlt,hall true (by rw [hokk,h8];simp)⟩,⟨by repeat' first | exact trivial | refine ⟨.inl rfl,?_⟩ | refine ⟨.inr rfl,?_⟩,⟨by repeat' first | exact trivial | refine ⟨.inl rfl,?_⟩ | refine ⟨.inr rfl,?_⟩,by repeat' first | exact trivial | refine ⟨.inl rfl,?_⟩ | refine ⟨.inr rfl,?_⟩,fun _ h=>h⟩,rfl⟩,by show n - (0+1)<n - 0;omega⟩
 ·have hkn:k=n:=by have h3:=of_decide_eq_false (show decide ((k:Int)<(n:Int))=false from h1);omega
  have hfin:shOk (L.map acP) K sh per=true:=by unfold shOk;rw [List.length_map,← hn,← hkn];exact hok
  rw [hfin]
  conv=>arg 5;whnf
  exact wp_back fun β ρ w' hM'=>⟨rfl,hM'.below⟩
end Go.Proofs.YtfhgkkcpkcjbmaaGreatDoor.shard
namespace Go.Proofs.YtfhgkkcpkcjbmaaGreatDoor.shard
open Go.RowKit Sx txn queue greedy
theorem acs_of {W:World} {G:Option Nat} {m:M} {β ρ} {w:World} {u:Option Addr} {n c:Nat} {Ls:List Ac} (hM:Mem W G m β ρ w) (hs:Sl u n c) (hn:n=Ls.length) (hfit:∀x∈Ls,x.fit) (hm:∀φ∈acsF u n Ls,φ∈m.facts):Acs w u n c Ls:=
 ⟨hs,hn,hM.at_ (hm _ (.head _)),fun x hx=>⟨hfit x hx,hM.at_ (hm _ (.tail _ (List.mem_map.2 ⟨x,hx,rfl⟩)))⟩⟩
section
variable {P : Program} {W : World} {Q : Ending → World → Prop} {ds : List Deferred}
theorem meetSh {f:FuncId} {args:List Sx.T} {l:List Value} {m:M} {k:Value→List Fact→Tree} (R:List PA) (nv:Int) (hv:valsOf args=some l) (hc:callable P f=true)
  (hC:∀β ρ w,Mem W none m β ρ w→Calls P f (List.toArray l) w fun e w'=>∃(i:One) (Ls:List Ac),Ls.map acP=R∧(∀x∈Ls,x.fit)∧Sl i.1 Ls.length i.2∧Gives w w' e (shV i.1 Ls.length i.2 nv) (acsF i.1 Ls.length Ls))
  (h:∀(Ls:List Ac) (u:Option Addr) (c:Nat),Ls.map acP=R→(∀x∈Ls,x.fit)→Sl u Ls.length c→(∀φ∈acsF u Ls.length Ls,∀g,φ.g=some g→W.heap.size≤g)→(k (shV u Ls.length c nv) (acsF u Ls.length Ls)).wpD P W none Q ds):(Tree.call f args m k).wpD P W none Q ds:=
 meetR (ι:=One×List Ac) (ok:=fun i=>i.2.map acP=R∧(∀x∈i.2,x.fit)∧Sl i.1.1 i.2.length i.1.2∧∀φ∈acsF i.1.1 i.2.length i.2,∀g,φ.g=some g→W.heap.size≤g) (v:=fun i=>shV i.1.1 i.2.length i.1.2 nv) (fs:=fun i=>acsF i.1.1 i.2.length i.2) hc (fun β ρ w vs hm hr=>by
  rw [valsOf_spec _ _ _ hv hr]
  exact (hC β ρ w hm).mono fun e w' ⟨i,Ls,h1,h2,h3,h4⟩=>⟨(i,Ls),⟨h1,h2,h3,fun φ hφ g hg=>Nat.le_trans hm.grown.size (h4.2.2 φ hφ g hg).1⟩,h4⟩) (fun i hi=>h i.2 i.1.1 i.1.2 hi.1 hi.2.1 hi.2.2.1 hi.2.2.2)
end
abbrev T1:Tx:=⟨3,1,5,9,1,ByteArray.empty⟩
theorem sl0:Sl none 0 0:=⟨Nat.le_refl _,Nat.zero_le _,fun _=>⟨rfl,rfl⟩⟩
theorem d1:∀t∈[T1],t.d.size≤maxLen:=by intro t ht;simp only [List.mem_singleton] at ht;subst ht;exact Nat.zero_le _
theorem worstL (L:List Ac) (r:Tx×Bool) (a:Option Addr) (n c:Nat) (w:World) (hM:Most w) (hA:Acs w a n c L) (h1000:n≤100000) (e:worstV L=r):Calls Tryz.prog 123 (List.toArray [.slice a n c]) w fun e w'=>e=.returned (.tuple #[r.1.val,.bool r.2])∧Below w.heap.size w w':=e▸worst L a n c w hM hA h1000
end Go.Proofs.YtfhgkkcpkcjbmaaGreatDoor.shard
