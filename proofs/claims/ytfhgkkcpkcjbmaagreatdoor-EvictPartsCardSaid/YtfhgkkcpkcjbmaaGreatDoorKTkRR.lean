/- What is wanted of ShAll besides. -/
import Derived.Test.YtfhgkkcpkcjbmaaGreatDoorKPoAll
import Derived.Test.YtfhgkkcpkcjbmaaGreatDoorKTkAA
import Derived.Test.YtfhgkkcpkcjbmaaGreatDoorKTkJJ
import Derived.Test.YtfhgkkcpkcjbmaaGreatDoorKSxx
set_option linter.all false
set_option maxHeartbeats 4000000
set_option maxRecDepth 100000
namespace Go.Proofs.YtfhgkkcpkcjbmaaGreatDoor.shard
section
variable {α β : Type}
def srt (f:α→Int) (L:List α):List α:=L.foldl (fun a x=>ins f x a) []
theorem ins_map (f:α→Int) (g:β→Int) (h:α→β) (hf:∀x,g (h x)=f x) (x:α) (l:List α):(ins f x l).map h=ins g (h x) (l.map h):=by
 induction l with
 | nil=>rfl
 | cons y l ih=>
  unfold ins
  rw [List.map_cons]
  simp only [hf]
  split
  ·rfl
  ·rw [List.map_cons,ih]
theorem srt_map (f:α→Int) (g:β→Int) (h:α→β) (hf:∀x,g (h x)=f x) (L:List α):(srt f L).map h=srt g (L.map h):=by
 unfold srt
 have:∀(a:List α),(L.foldl (fun a x=>ins f x a) a).map h=(L.map h).foldl (fun a x=>ins g x a) (a.map h):=by
  induction L with
  | nil=>intro a;rfl
  | cons x L ih=>intro a;rw [List.foldl_cons,ih,ins_map f g h hf,List.map_cons,List.foldl_cons]
 exact this []
theorem srt_perm (f:α→Int) (L:List α):(srt f L).Perm L:=by
 unfold srt
 have:∀(a:List α),(L.foldl (fun a x=>ins f x a) a).Perm (a++L):=by
  induction L with
  | nil=>intro a;simp
  | cons x L ih=>
   intro a
   rw [List.foldl_cons]
   refine (ih _).trans ?_
   have:=(ins_perm f x a).append_right L
   refine this.trans ?_
   rw [List.cons_append]
   exact List.perm_middle.symm
 exact this []
theorem ins_sorted (f:α→Int) (x:α) {l:List α} (h:l.Pairwise (fun a b=>f a≤f b)):(ins f x l).Pairwise (fun a b=>f a≤f b):=by
 induction l with
 | nil=>simp [ins]
 | cons y l ih=>
  rw [List.pairwise_cons] at h
  unfold ins
  split
  ·rename_i hlt
   refine List.pairwise_cons.2 ⟨fun z hz=>?_,List.pairwise_cons.2 h⟩
   rcases List.mem_cons.1 hz with rfl | hz
   ·omega
   ·have:=h.1 z hz;omega
  ·rename_i hlt
   refine List.pairwise_cons.2 ⟨fun z hz=>?_,ih h.2⟩
   rcases List.mem_cons.1 ((ins_perm f x l).mem_iff.1 hz) with rfl | hz
   ·omega
   ·exact h.1 z hz
theorem srt_sorted (f:α→Int) (L:List α):(srt f L).Pairwise (fun a b=>f a≤f b):=by
 unfold srt
 have:∀(a:List α),a.Pairwise (fun a b=>f a≤f b)→(L.foldl (fun a x=>ins f x a) a).Pairwise (fun a b=>f a≤f b):=by
  induction L with
  | nil=>intro a h;exact h
  | cons x L ih=>intro a h;rw [List.foldl_cons];exact ih _ (ins_sorted f x h)
 exact this [] List.Pairwise.nil
end
end Go.Proofs.YtfhgkkcpkcjbmaaGreatDoor.shard
namespace Go.Proofs.YtfhgkkcpkcjbmaaGreatDoor.shard
open Go.RowKit Sx txn queue greedy
def allS (S:List Shd):List Ac:=S.flatMap Shd.L
end Go.Proofs.YtfhgkkcpkcjbmaaGreatDoor.shard
namespace Go.Proofs.YtfhgkkcpkcjbmaaGreatDoor.shard
open Go.RowKit Go.ChangeShapes Go.WideShapes Sx txn queue greedy
def ShsIn (w:World) (a:Option Addr) (n c:Nat) (S:List Shd):Prop:=Sl a n c∧n=S.length∧At w (pt a n) (cellsS S)∧∀q∈S,AccsIn w q.a q.n q.c q.L∧Fits q.v
theorem ShsIn.facts {w:World} {a n c S} (h:ShsIn w a n c S):∀φ∈shsF a n S,∀g,φ.g=some g→∃o,w.heap[g]?=some o∧φ.holds o:=by
 intro φ hφ
 rcases List.mem_cons.1 hφ with rfl | hφ
 ·exact h.2.2.1
 ·obtain ⟨q,hq,hφ⟩:=List.mem_flatMap.1 hφ
  exact (h.2.2.2 q hq).1.facts φ hφ
theorem ShsIn.mem {W:World} {G:Option Nat} {m:M} {β ρ} {w w0:World} {a n c S} (h0:ShsIn w0 a n c S) (hM:Mem W G m β ρ w) (hm:∀φ∈shsF a n S,φ∈m.facts):ShsIn w a n c S:=
 ⟨h0.1,h0.2.1,hM.at_ (hm _ (.head _)),fun q hq=>⟨(h0.2.2.2 q hq).1.mem hM fun φ hφ=>hm φ (.tail _ (List.mem_flatMap.2 ⟨q,hq,hφ⟩)),(h0.2.2.2 q hq).2⟩⟩
end Go.Proofs.YtfhgkkcpkcjbmaaGreatDoor.shard
namespace Go.Proofs.YtfhgkkcpkcjbmaaGreatDoor.shard
open Go.RowKit Sx txn queue greedy
theorem rsame11 (L1 L2:List Ac) (heq:L1.map acP=L2.map acP) (v:Int) (a1:Option Addr) (n1 c1:Nat) (a2:Option Addr) (n2 c2:Nat) (w:World) (h1:Acs w a1 n1 c1 L1) (h2:Acs w a2 n2 c2 L2) :
  Calls Tryz.prog 71 (List.toArray [shV a1 n1 c1 v,shV a2 n2 c2 v]) w fun e w'=>e=.returned (.bool true)∧Below w.heap.size w w':=by
 refine calls_of_exec Sxs.env_ok.keeps Tryz.func71 rfl [] (schedQ_ok _ _ (by kernel_rfl)) (acsF a1 n1 L1++acsF a2 n2 L2) (fun φ hφ g hg=>(List.mem_append.1 hφ).elim (fun h=>h1.facts φ h g hg) fun h=>h2.facts φ h g hg) ?_
 conv=>arg 5;whnf
 refine wp_g1 (fun h=>?_) (fun h=>absurd h (by simp))
 conv=>arg 5;whnf
 refine meetc (f:=26) (v:=.bool true) rfl (by kernel_rfl) (fun β ρ w' hM'=>raccounts L1 L2 heq a1 n1 c1 a2 n2 c2 w' (Mem.acs h1 hM' fun φ hφ=>(show φ∈acsF a1 n1 L1++acsF a2 n2 L2 from List.mem_append_left _ hφ)) (Mem.acs h2 hM' fun φ hφ=>(show φ∈acsF a1 n1 L1++acsF a2 n2 L2 from List.mem_append_right _ hφ))) ?_
 conv=>arg 5;whnf
 exact wp_back fun β ρ w' hM'=>⟨rfl,hM'.below⟩
end Go.Proofs.YtfhgkkcpkcjbmaaGreatDoor.shard
namespace Go.Proofs.YtfhgkkcpkcjbmaaGreatDoor.shard
open Go.RowKit Go.ChangeShapes Go.WideShapes Sx txn queue greedy
theorem typed_shard:Typed Tryz.prog 109 (.flat [.row (.flat [.int,.int,.row (.flat shTx)]),.int]):=.struct Tryz.underlying109 (.cons rfl typed_accs (.cons rfl typed_int .nil)) (by kernel_rfl)
theorem typed_shards:Typed Tryz.prog 27 (.row (.flat [.row (.flat [.int,.int,.row (.flat shTx)]),.int])):=.row Tryz.underlying27 (by kernel_rfl) typed_shard (by decide)
theorem lies_shard {w:World} {vs:List Value} {ds:List D} (h:LiesL w [.row (.flat [.int,.int,.row (.flat shTx)]),.int] vs ds):∃q:Shd,vs=q.cs∧AccsIn w q.a q.n q.c q.L∧Fits q.v:=by
 cases h with
 | cons h1 h=>
 cases h with
 | cons h4 h=>
 cases h
 cases h1 with
 | row hs hn hl' ha=>
 cases h4 with
 | int f2=>
  obtain ⟨L,rfl,h6,h7⟩:=LiesN.accs hl'
  exact ⟨⟨_,_,_,L,_⟩,rfl,⟨hs,by simp only [];omega,ha,h7⟩,f2⟩
theorem LiesN.shards {w:World}:∀{vs:List Value} {ds:List D},LiesN w (.flat [.row (.flat [.int,.int,.row (.flat shTx)]),.int]) vs ds→∃S:List Shd,vs=cellsS S∧ds.length=S.length∧∀q∈S,AccsIn w q.a q.n q.c q.L∧Fits q.v
 | _,_,.nil=>⟨[],rfl,rfl,by simp⟩
 | _,_,.cons h hl=>by
  obtain ⟨S,rfl,h2,h3⟩:=LiesN.shards hl
  cases h with
  | flat h=>
   obtain ⟨q,rfl,hq⟩:=lies_shard h
   refine ⟨q::S,rfl,by simp [h2],fun p hp=>?_⟩
   rcases List.mem_cons.1 hp with rfl | hp
   ·exact hq
   ·exact h3 p hp
end Go.Proofs.YtfhgkkcpkcjbmaaGreatDoor.shard
namespace Go.Proofs.YtfhgkkcpkcjbmaaGreatDoor.shard
section
variable {α β : Type}
theorem srt_len (f:α→Int) (L:List α):(srt f L).length=L.length:=(srt_perm f L).length_eq
end
end Go.Proofs.YtfhgkkcpkcjbmaaGreatDoor.shard
namespace Go.Proofs.YtfhgkkcpkcjbmaaGreatDoor.shard
open Go.RowKit Sx txn queue greedy
theorem allS_take {S:List Shd} {k:Nat} {q:Shd} (h:S[k]?=some q):allS (S.take (k+1))=allS (S.take k)++q.L:=by unfold allS;rw [List.take_add_one,h,List.flatMap_append];simp
theorem allS_le (S:List Shd) (k:Nat):(allS (S.take k)).length≤(allS S).length:=by
 have:allS S=allS (S.take k)++allS (S.drop k):=by unfold allS;rw [← List.flatMap_append,List.take_append_drop]
 rw [this,List.length_append];omega
theorem acF_all {a n} {S:List Shd} {x:Ac} (hx:x∈allS S):acF x∈shsF a n S:=by
 obtain ⟨q,hq,hx⟩:=List.mem_flatMap.1 hx
 exact .tail _ (List.mem_flatMap.2 ⟨q,hq,.tail _ (List.mem_map.2 ⟨x,hx,rfl⟩)⟩)
end Go.Proofs.YtfhgkkcpkcjbmaaGreatDoor.shard
namespace Go.Proofs.YtfhgkkcpkcjbmaaGreatDoor.task
open Go.RowKit Sx txn queue greedy shard pool Go.Proofs.YtfhgkkcpkcjbmaaGreatDoor.look lock
def joinS (S:List (List PA×Int)):List PA:=srt (fun x:PA=>x.1) (S.flatMap fun q=>q.1)
theorem join_map (S:List Shd):(srt (fun x:Ac=>x.s) (allS S)).map acP=joinS (S.map shdP):=by
 rw [srt_map (fun x:Ac=>x.s) (fun x:PA=>x.1) acP (fun _=>rfl)]
 unfold joinS allS
 rw [List.map_flatMap,List.flatMap_map]
 rfl
theorem join_mem {S:List (List PA×Int)} {x:PA}:x∈joinS S↔∃(k:Nat) (q:List PA×Int),S[k]?=some q∧x∈q.1:=by
 unfold joinS
 rw [(srt_perm _ _).mem_iff,List.mem_flatMap]
 constructor
 ·rintro ⟨q,hq,hx⟩
  obtain ⟨k,hk⟩:=List.mem_iff_getElem?.1 hq
  exact ⟨k,q,hk,hx⟩
 ·rintro ⟨k,q,hk,hx⟩
  exact ⟨q,List.mem_of_getElem? hk,hx⟩
end Go.Proofs.YtfhgkkcpkcjbmaaGreatDoor.task

namespace Go.Proofs.YtfhgkkcpkcjbmaaGreatDoor.task
open Go.RowKit Sx txn queue greedy shard pool Go.Proofs.YtfhgkkcpkcjbmaaGreatDoor.look lock
def SgIn (w:World) (x:Sn) (s:Sg):Prop:=(Sl x.la s.l.length x.lc∧At w (pt x.la s.l.length) (ic s.l))∧ShsIn w x.sa x.S.length x.sc x.S∧x.S.map shdP=s.S
theorem SgIn.facts {w:World} {x:Sn} {s:Sg} (h:SgIn w x s):∀φ∈sgF x s,∀g,φ.g=some g→∃o,w.heap[g]?=some o∧φ.holds o:=fun φ hφ=>(List.mem_cons.1 hφ).elim (fun e=>by subst e;exact h.1.2) (fun h2=>h.2.1.facts φ h2)
theorem SgIn.mem {W:World} {G:Option Nat} {m:M} {β ρ} {w w0:World} {x:Sn} {s:Sg} (h:SgIn w0 x s) (hM:Mem W G m β ρ w) (hm:∀φ∈sgF x s,φ∈m.facts):SgIn w x s:=
 ⟨⟨h.1.1,hM.at_ (hm _ (.head _))⟩,h.2.1.mem hM fun φ hφ=>hm φ (.tail _ hφ),h.2.2⟩
def smallB (x:Sn) (s:Sg):Bool:=(x.S.all fun q=>fewA q.L&&decide ((q.n:Int)≤20))&&(decide ((x.S.length:Int)≤10)&&decide ((s.l.length:Int)≤10))
theorem all_drop {α:Type} {p:α→Bool} {l:List α} {k:Nat} {x:α} (h:l[k]?=some x):(l.drop k).all p=(p x&&(l.drop (k+1)).all p):=by
 obtain ⟨h1,h2⟩:=List.getElem?_eq_some_iff.1 h
 rw [List.drop_eq_getElem_cons h1,h2,List.all_cons]
theorem SgIn.small {w:World} {x:Sn} {s:Sg} (h:SgIn w x s) (hb:smallB x s=true):Sgo x s∧s.l.length≤10∧s.S.length≤10∧(∀q∈x.S,q.n≤20)∧(∀q∈x.S,∀z∈q.L,z.l.length≤20):=by
 unfold smallB at hb
 simp only [Bool.and_eq_true,List.all_eq_true,decide_eq_true_eq] at hb
 obtain ⟨h1,h2,h3⟩:=hb
 refine ⟨⟨h.1.1,h.2.1.1,fun q hq=>?_,h.2.2⟩,by omega,by rw [← h.2.2,List.length_map];omega,fun q hq=>by have:=(h1 q hq).2;omega,fun q hq=>(((h.2.1.2.2.2 q hq).1).few (h1 q hq).1).2⟩
 obtain ⟨f1,f2⟩:=((h.2.1.2.2.2 q hq).1).few (h1 q hq).1
 exact ⟨f1.1,f1.2.1,fun z hz=>(f1.2.2.2 z hz).1⟩
theorem small (s:Sg) (x:Sn) (w:World) (hI:SgIn w x s) :
  Calls Tryz.prog 13 (List.toArray [sgV s x]) w fun e w'=>e=.returned (.bool (smallB x s))∧Below w.heap.size w w':=by
 have hs:=hI.2.1.1
 have hl:=hI.1.1
 have hn63:=hs.le
 have hm63:=hl.le
 refine calls_of_exec Sxt.env_ok.keeps.soon_ Tryz.func13 rfl [] (schedQ_ok _ _ (by kernel_rfl)) (sgF x s) hI.facts ?_
 conv=>arg 5;whnf
 refine loop_rule Sxt.env_ok.keeps.soon_ [] (schedQ_ok _ _ (by kernel_rfl)) (fun k:Nat=>k≤x.S.length∧smallB x s=(((x.S.drop k).all fun q=>fewA q.L&&decide ((q.n:Int)≤20))&&(decide ((x.S.length:Int)≤10)&&decide ((s.l.length:Int)≤10)))) (fun k=>(⟨[some ([.v (.int .i64 s.C.sh),.v (.int .i64 s.C.so),.v (.int .i64 s.C.hd),.v (.int .i64 s.C.per),.v (.int .i64 s.C.bp),.v (.int .i64 s.C.fd),.v (.int .i64 s.C.wk),.v (.int .i64 s.C.rm),.v (.slice x.la s.l.length x.lc),.v (.int .i64 s.t),.v (.int .i64 s.m),.v (.slice x.sa x.S.length x.sc)],29)],[],sgF x s⟩,[.any,.p 0 0,.any,.v (.int .i64 k),.any,.any,.any,.any,.any,.any,.any,.any,.any,.any,.any,.any,.any,.any,.any,.any,.any,.any,.any,.any,.any,.any,.any,.any,.any])) (fun k=>x.S.length - k) 0 ⟨Nat.zero_le _,rfl⟩ ⟨by repeat' first | exact trivial | refine ⟨.inl rfl,?_⟩ | refine ⟨.inr rfl,?_⟩,⟨by repeat' first | exact trivial | refine ⟨.inl rfl,?_⟩ | refine ⟨.inr rfl,?_⟩,by repeat' first | exact trivial | refine ⟨.inl rfl,?_⟩ | refine ⟨.inr rfl,?_⟩,fun _ h=>h⟩,rfl⟩ ?_
 rintro k ⟨hk,he⟩
 conv=>arg 5;whnf
 refine wp_br (fun h1=>?_) (fun h1=>?_)
 ·have hlt:k<x.S.length:=by have h3:=of_decide_eq_true (show decide ((k:Int)<(x.S.length:Int))=true from h1);omega
  obtain ⟨q,hq⟩:∃q,x.S[k]?=some q:=⟨_,List.getElem?_eq_getElem (by omega)⟩
  have hqm:=List.mem_of_getElem? hq
  rw [all_drop hq] at he
  have FW:=fun w' (hM':AccsIn w' q.a q.n q.c q.L)=>fewW q.L 20 q.a q.n q.c w' hM'
  generalize (fewA q.L&&decide ((q.n:Int)≤20))=fb at *
  conv=>arg 5;whnf
  refine wp_must ⟨by omega,by show (k:Int)<(x.S.length:Int);omega,hs.some hlt⟩ ?_
  conv=>arg 5;whnf
  refine readF (sz:=2) (k:=k) (f:=0) (.slice q.a q.n q.c) rfl (.tail _ (.head _)) hlt (hs.some hlt) (cellsS_at hq 0 _ rfl) rfl ?_
  conv=>arg 5;whnf
  refine meetc (f:=47) (v:=.bool fb) rfl (by kernel_rfl) (fun β ρ w' hM'=>FW w' ((hI.mem hM' fun φ hφ=>hφ).2.1.2.2.2 q hqm).1) ?_
  cases fb with
  | false=>
   rw [he]
   conv=>arg 5;whnf
   exact wp_back fun β ρ w' hM'=>⟨rfl,hM'.below⟩
  | true=>
   conv=>arg 5;whnf
   refine wp_must ⟨by show -9223372036854775808≤(k:Int)+1;omega,by show (k:Int)+1≤9223372036854775807;omega⟩ ?_
   conv=>arg 5;whnf
   refine wp_end ⟨k+1,⟨hlt,by rw [he,Bool.true_and]⟩,⟨by repeat' first | exact trivial | refine ⟨.inl rfl,?_⟩ | refine ⟨.inr rfl,?_⟩,⟨by repeat' first | exact trivial | refine ⟨.inl rfl,?_⟩ | refine ⟨.inr rfl,?_⟩,by repeat' first | exact trivial | refine ⟨.inl rfl,?_⟩ | refine ⟨.inr rfl,?_⟩,fun _ h=>h⟩,rfl⟩,by show x.S.length - (k+1)<x.S.length - k;omega⟩
 ·have hkn:k=x.S.length:=by have h3:=of_decide_eq_false (show decide ((k:Int)<(x.S.length:Int))=false from h1);omega
  rw [List.drop_of_length_le (by omega)] at he
  rw [he]
  conv=>arg 5;whnf
  refine wp_g1 (fun h2=>?_) (fun h2=>?_)
  ·have h3:decide ((x.S.length:Int)≤10)=true:=h2
   rw [h3]
   conv=>arg 5;whnf
   exact wp_back fun β ρ w' hM'=>⟨rfl,hM'.below⟩
  ·have h3:decide ((x.S.length:Int)≤10)=false:=h2
   rw [h3]
   conv=>arg 5;whnf
   exact wp_back fun β ρ w' hM'=>⟨rfl,hM'.below⟩
end Go.Proofs.YtfhgkkcpkcjbmaaGreatDoor.task
namespace Go.Proofs.YtfhgkkcpkcjbmaaGreatDoor.task
open Go.RowKit Sx txn queue greedy shard pool Go.Proofs.YtfhgkkcpkcjbmaaGreatDoor.look lock
theorem ownS (s:Sg) (x:Sn) (w:World) (hl:Sl x.la s.l.length x.lc) (hs:Sl x.sa x.S.length x.sc) (hrow:At w (pt x.sa x.S.length) (cellsS x.S)) (hS1:x.S.length≤1000000) :
  Calls Tryz.prog 20 (List.toArray [sgV s x]) w fun e w'=>∃i:One,Sl i.1 x.S.length i.2∧Gives w w' e (sgV s ⟨x.la,x.lc,i.1,i.2,x.S⟩) [rowF (pt i.1 x.S.length) (cellsS x.S)]:=by
 have OW:=fun w hr=>shard.own x.S x.sa x.S.length x.sc w hs rfl hr hS1
 refine calls_of_exec Sxt.env_ok.keeps.soon_ Tryz.func20 rfl [(1,(line [0,1,2,3,4,5,6,7,8,9,10],[1]))] (schedQ_ok _ _ (by kernel_rfl)) [rowF (pt x.sa x.S.length) (cellsS x.S)] (at1 hrow) ?_
 conv=>arg 5;whnf
 refine meet1F (f:=61) (n:=x.S.length) (v:=fun a1 c1=>.slice a1 x.S.length c1) (xs:=cellsS x.S) rfl (by kernel_rfl) (fun β ρ w' hM'=>OW w' (hM'.at_ (.head _))) (fun u c_u h_u f_u=>?_)
 conv=>arg 5;whnf
 refine wp_back fun β ρ w' hM'=>⟨(u,c_u),h_u,rfl,hM'.below,fun φ hφ=>?_⟩
 simp only [List.mem_singleton] at hφ
 subst hφ
 exact fun g hg=>⟨f_u g hg,(hM'.fact _ (.head _) g hg).2⟩
theorem cellsS_take {S:List Shd} {k:Nat} {q:Shd} (h:S[k]?=some q):cellsS (S.take (k+1))=cellsS (S.take k)++q.cs:=by rw [List.take_add_one,h,cellsS_app2];simp [cellsS]
theorem toldS (s:Sg) (x:Sn) (w:World) (hl:Sl x.la s.l.length x.lc) (hs:Sl x.sa x.S.length x.sc) (hrow:At w (pt x.sa x.S.length) (cellsS x.S)) (hS1:x.S.length≤1000000) :
  Calls Tryz.prog 21 (List.toArray [sgV s x]) w fun e w'=>∃i:One,Sl i.1 x.S.length i.2∧Gives w w' e (sgV s ⟨x.la,x.lc,i.1,i.2,x.S⟩) [rowF (pt i.1 x.S.length) (cellsS x.S)]:=by
 have hn63:=hs.le
 refine calls_of_exec Sxt.env_ok.keeps Tryz.func21 rfl [(5,(lineT [0,1,2,3,4,5,6,7] [8,9,10],[]))] (schedQ_ok _ _ (by kernel_rfl)) [rowF (pt x.sa x.S.length) (cellsS x.S)] (at1 hrow) ?_
 conv=>arg 5;whnf
 refine loop_nilC 2 11 109 2 _ _ rfl rfl ?_
 refine loop_ruleE Sxt.env_ok.keeps [(5,(lineT [0,1,2,3,4,5,6,7] [8,9,10],[]))] (schedQ_ok _ _ (by kernel_rfl)) [3] (fun k:Nat=>k≤x.S.length) (fun k=>(⟨[some ([.v (.int .i64 s.C.sh),.v (.int .i64 s.C.so),.v (.int .i64 s.C.hd),.v (.int .i64 s.C.per),.v (.int .i64 s.C.bp),.v (.int .i64 s.C.fd),.v (.int .i64 s.C.wk),.v (.int .i64 s.C.rm),.v (.slice x.la s.l.length x.lc),.v (.int .i64 s.t),.v (.int .i64 s.m),.v (.slice x.sa x.S.length x.sc)],56),some ([.v (.int .i64 0),.v (.int .i64 0),.v (.int .i64 0),.v (.int .i64 0),.v (.int .i64 0),.v (.int .i64 0),.v (.int .i64 0),.v (.int .i64 0),.v (.slice none 0 0),.v (.int .i64 0),.v (.int .i64 0),.v (.slice none 0 0)],29),some ([.v (.int .i64 s.C.sh),.v (.int .i64 s.C.so),.v (.int .i64 s.C.hd),.v (.int .i64 s.C.per),.v (.int .i64 s.C.bp),.v (.int .i64 s.C.fd),.v (.int .i64 s.C.wk),.v (.int .i64 s.C.rm),.v (.slice x.la s.l.length x.lc),.v (.int .i64 s.t),.v (.int .i64 s.m),.r 0],29)],[some ⟨109,2,k,cellsS (x.S.take k)⟩],[rowF (pt x.sa x.S.length) (cellsS x.S)]⟩,[.any,.p 0 0,.p 1 0,.p 2 0,.v (.int .i64 k),.any,.any,.any,.any,.any,.any,.any,.any,.any,.any,.any,.any,.any,.any,.any,.any,.any,.any,.any,.any,.any,.any,.any,.any,.any])) (fun k=>x.S.length - k) 0 (Nat.zero_le _) ⟨by repeat' first | exact trivial | refine ⟨.inl rfl,?_⟩ | refine ⟨.inr rfl,?_⟩,⟨by repeat' first | exact trivial | refine ⟨.inl rfl,?_⟩ | refine ⟨.inr rfl,?_⟩,by repeat' first | exact trivial | refine ⟨.inl rfl,?_⟩ | refine ⟨.inr rfl,?_⟩,fun _ h=>h⟩,rfl⟩ ?_
 intro k hk
 conv=>arg 5;whnf
 refine wp_br (fun h1=>?_) (fun h1=>?_)
 ·have hlt:k<x.S.length:=by have h3:=of_decide_eq_true (show decide ((k:Int)<(x.S.length:Int))=true from h1);omega
  obtain ⟨q,hq⟩:∃q,x.S[k]?=some q:=⟨_,List.getElem?_eq_getElem (by omega)⟩
  have ec:=cellsS_take hq
  conv=>arg 5;whnf
  refine wp_must ⟨by omega,by show (k:Int)<(x.S.length:Int);omega,hs.some hlt⟩ ?_
  conv=>arg 5;whnf
  refine readG Sxt.env_ok.keeps (vs:=q.cs) (sz:=2) (k:=k) rfl rfl (.head _) hlt (hs.some hlt) (cellsS_at hq) rfl ?_
  conv=>arg 5;whnf
  refine wp_must ⟨by show k+1≤maxLen;unfold maxLen;omega,by show (k+1)*32≤140737488355328;omega⟩ ?_
  conv=>arg 5;whnf
  refine wp_must ⟨by show -9223372036854775808≤(k:Int)+1;omega,by show (k:Int)+1≤9223372036854775807;omega⟩ ?_
  conv=>arg 5;whnf
  refine wp_end ⟨k+1,hlt,⟨by repeat' first | exact trivial | refine ⟨.inl rfl,?_⟩ | refine ⟨.inr rfl,?_⟩,⟨by repeat' first | exact trivial | refine ⟨.inl rfl,?_⟩ | refine ⟨.inr rfl,?_⟩,by rw [ec];repeat' first | exact trivial | refine ⟨.inl rfl,?_⟩ | refine ⟨.inr rfl,?_⟩,fun _ h=>h⟩,rfl⟩,by show x.S.length - (k+1)<x.S.length - k;omega⟩
 ·have hkn:k=x.S.length:=by have h3:=of_decide_eq_false (show decide ((k:Int)<(x.S.length:Int))=false from h1);omega
  have e:x.S.take k=x.S:=List.take_of_length_le (by omega)
  rw [e,hkn]
  conv=>arg 5;whnf
  refine wp_share fun u c_u h_u f_u=>?_
  conv=>arg 5;whnf
  refine wp_back fun β ρ w' hM'=>⟨(u,c_u),h_u,rfl,hM'.below,fun φ hφ=>?_⟩
  simp only [List.mem_singleton] at hφ
  subst hφ
  exact giveF _ hM' (.head _) f_u
theorem cf_neq (x y:Operand) (C:Cf) (w:World):(do eqGuard .neq 23 x y C.val C.val;pure (Next.value (← binOp .neq 23 C.val C.val)):Sem Next).run Tryz.prog w=.ok (.value (.bool false)) w:=by
 simp [Cf.val,eqGuard,go_sem]
theorem pot_neq (x y:Operand) (a b:Int) (w:World):(do eqGuard .neq 26 x y (pot.two a b) (pot.two a b);pure (Next.value (← binOp .neq 26 (pot.two a b) (pot.two a b))):Sem Next).run Tryz.prog w=.ok (.value (.bool false)) w:=by
 simp [pot.two,eqGuard,go_sem]
theorem rsameL (l:List Int) (a b:Option Addr) (n c d:Nat) (w:World) (hs:Sl a n c) (ht:Sl b n d) (hn:n=l.length) (hrow:At w (pt a n) (ic l)) (hrow':At w (pt b n) (ic l)):Calls Tryz.prog 70 (List.toArray [.slice a n c,.slice b n d]) w fun e w'=>e=.returned (.bool true)∧Below w.heap.size w w':=by
 have hn63:=hs.le
 refine calls_of_exec Sxt.env_ok.keeps Tryz.func70 rfl [(6,(line [0,1,2,3,4,5,6,7,8],[]))] (schedQ_ok _ _ (by kernel_rfl)) [rowF (pt a n) (ic l),rowF (pt b n) (ic l)] (fun φ hφ g hg=>by simp only [List.mem_cons,List.not_mem_nil,or_false] at hφ;rcases hφ with rfl | rfl <;> first | exact hrow g hg | exact hrow' g hg) ?_
 conv=>arg 5;whnf
 refine wp_br (fun h=>absurd h (by simp)) (fun h=>?_)
 conv=>arg 5;whnf
 refine loop_rule Sxt.env_ok.keeps [(6,(line [0,1,2,3,4,5,6,7,8],[]))] (schedQ_ok _ _ (by kernel_rfl)) (fun k:Nat=>k≤n) (fun k=>(⟨[],[],[rowF (pt a n) (ic l),rowF (pt b n) (ic l)]⟩,[.v (.slice a n c),.v (.slice b n d),.any,.any,.v (.bool false),.v (.int .i64 k),.any,.any,.any,.any,.any,.any,.any,.any,.any,.any,.any,.any,.any,.any,.any,.any,.any,.any,.any,.any])) (fun k=>n - k) 0 (Nat.zero_le _) ⟨by repeat' first | exact trivial | refine ⟨.inl rfl,?_⟩ | refine ⟨.inr rfl,?_⟩,⟨by repeat' first | exact trivial | refine ⟨.inl rfl,?_⟩ | refine ⟨.inr rfl,?_⟩,by repeat' first | exact trivial | refine ⟨.inl rfl,?_⟩ | refine ⟨.inr rfl,?_⟩,fun _ h=>h⟩,rfl⟩ ?_
 intro k hk
 conv=>arg 5;whnf
 refine wp_br (fun h1=>?_) (fun h1=>?_)
 ·have hlt:k<n:=by simp at h1;omega
  have hx:l[k]?=some l[k]:=List.getElem?_eq_getElem (by omega)
  generalize l[k]=x at hx
  conv=>arg 5;whnf
  refine wp_must ⟨by omega,by omega,hs.some hlt⟩ ?_
  conv=>arg 5;whnf
  refine readF (sz:=1) (k:=k) (f:=0) (.int .i64 x) rfl (.head _) hlt (hs.some hlt) (by rw [show k*1+0=k by omega];exact ic_get hx) rfl ?_
  conv=>arg 5;whnf
  refine wp_must ⟨by omega,by omega,ht.some hlt⟩ ?_
  conv=>arg 5;whnf
  refine readF (sz:=1) (k:=k) (f:=0) (.int .i64 x) rfl (.tail _ (.head _)) hlt (ht.some hlt) (by rw [show k*1+0=k by omega];exact ic_get hx) rfl ?_
  conv=>arg 5;whnf
  refine wp_br (fun h=>absurd h (by simp)) (fun _=>?_)
  conv=>arg 5;whnf
  refine wp_must ⟨by omega,by omega⟩ ?_
  conv=>arg 5;whnf
  refine wp_end ⟨k+1,hlt,⟨by repeat' first | exact trivial | refine ⟨.inl rfl,?_⟩ | refine ⟨.inr rfl,?_⟩,⟨by repeat' first | exact trivial | refine ⟨.inl rfl,?_⟩ | refine ⟨.inr rfl,?_⟩,by repeat' first | exact trivial | refine ⟨.inl rfl,?_⟩ | refine ⟨.inr rfl,?_⟩,fun _ h=>h⟩,rfl⟩,by show n - (k+1)<n - k;omega⟩
 ·skip
  conv=>arg 5;whnf
  exact wp_back fun β ρ w' hM'=>⟨rfl,hM'.below⟩
theorem rsameS (s:Sg) (x y:Sn) (w:World) (hx:Sgs w x s) (hy:Sgs w y s) :
  Calls Tryz.prog 28 (List.toArray [sgV s x,sgV s y]) w fun e w'=>e=.returned (.bool true)∧Below w.heap.size w w':=by
 have hxl:x.S.length=s.S.length:=by rw [← hx.2.2,List.length_map]
 have hyl:y.S.length=s.S.length:=by rw [← hy.2.2,List.length_map]
 have hs:=hx.2.1.1
 have ht:=hy.2.1.1
 have hn63:=hs.le
 have hfx:∀φ∈sgF x s,∀g,φ.g=some g→∃o,w.heap[g]?=some o∧φ.holds o:=fun φ hφ=>(List.mem_cons.1 hφ).elim (fun e=>by subst e;exact hx.1.2) (fun h=>hx.2.1.facts φ h)
 have hfy:∀φ∈sgF y s,∀g,φ.g=some g→∃o,w.heap[g]?=some o∧φ.holds o:=fun φ hφ=>(List.mem_cons.1 hφ).elim (fun e=>by subst e;exact hy.1.2) (fun h=>hy.2.1.facts φ h)
 refine calls_of_exec Sxt.env_ok.keeps Tryz.func28 rfl [(6,(line [0,1,2,3,4,5,6,7,8,9,10,11],[]))] (schedQ_ok _ _ (by kernel_rfl)) (sgF x s++sgF y s) (fun φ hφ g hg=>(List.mem_append.1 hφ).elim (fun h=>hfx φ h g hg) (fun h=>hfy φ h g hg)) ?_
 conv=>arg 5;whnf
 refine wp_prim (.bool false) (fun w=>cf_neq _ _ s.C w) ?_
 conv=>arg 5;whnf
 refine wp_prim (.bool false) (fun w=>pot_neq _ _ s.t s.m w) ?_
 conv=>arg 5;whnf
 refine meetc (f:=70) (v:=.bool true) rfl (by kernel_rfl) (fun β ρ w' hM'=>rsameL s.l x.la y.la s.l.length x.lc y.lc w' hx.1.1 hy.1.1 rfl (hM'.at_ (show rowF (pt x.la s.l.length) (ic s.l)∈sgF x s++sgF y s from .head _)) (hM'.at_ (show rowF (pt y.la s.l.length) (ic s.l)∈sgF x s++sgF y s from List.mem_append_right _ (.head _)))) ?_
 conv=>arg 5;whnf
 refine wp_br (fun h=>absurd h (by rw [hxl,hyl];simp)) (fun _=>?_)
 conv=>arg 5;whnf
 refine loop_rule Sxt.env_ok.keeps [(6,(line [0,1,2,3,4,5,6,7,8,9,10,11],[]))] (schedQ_ok _ _ (by kernel_rfl)) (fun k:Nat=>k≤x.S.length) (fun k=>(⟨[some ([.v (.int .i64 s.C.sh),.v (.int .i64 s.C.so),.v (.int .i64 s.C.hd),.v (.int .i64 s.C.per),.v (.int .i64 s.C.bp),.v (.int .i64 s.C.fd),.v (.int .i64 s.C.wk),.v (.int .i64 s.C.rm),.v (.slice x.la s.l.length x.lc),.v (.int .i64 s.t),.v (.int .i64 s.m),.v (.slice x.sa x.S.length x.sc)],29),some ([.v (.int .i64 s.C.sh),.v (.int .i64 s.C.so),.v (.int .i64 s.C.hd),.v (.int .i64 s.C.per),.v (.int .i64 s.C.bp),.v (.int .i64 s.C.fd),.v (.int .i64 s.C.wk),.v (.int .i64 s.C.rm),.v (.slice y.la s.l.length y.lc),.v (.int .i64 s.t),.v (.int .i64 s.m),.v (.slice y.sa y.S.length y.sc)],29)],[],sgF x s++sgF y s⟩,[.any,.any,.p 0 0,.p 1 0,.any,.v (.int .i64 k),.any,.any,.any,.any,.any,.any,.any,.any,.any,.any,.any,.any,.any,.any,.any,.any,.any,.any,.any,.any,.any,.any,.any,.any,.any,.any,.any,.any,.any,.any,.any,.any,.any,.any,.any,.any,.any,.any,.any,.any,.any,.any,.any,.any,.any,.any,.any,.any])) (fun k=>x.S.length - k) 0 (Nat.zero_le _) ⟨by repeat' first | exact trivial | refine ⟨.inl rfl,?_⟩ | refine ⟨.inr rfl,?_⟩,⟨by repeat' first | exact trivial | refine ⟨.inl rfl,?_⟩ | refine ⟨.inr rfl,?_⟩,by repeat' first | exact trivial | refine ⟨.inl rfl,?_⟩ | refine ⟨.inr rfl,?_⟩,fun _ h=>h⟩,rfl⟩ ?_
 intro k hk
 conv=>arg 5;whnf
 refine wp_br (fun h1=>?_) (fun h1=>?_)
 ·have hlt:k<x.S.length:=by have h3:=of_decide_eq_true (show decide ((k:Int)<(x.S.length:Int))=true from h1);omega
  obtain ⟨q,hq⟩:∃q,x.S[k]?=some q:=⟨_,List.getElem?_eq_getElem (by omega)⟩
  obtain ⟨r,hr⟩:∃r,y.S[k]?=some r:=⟨_,List.getElem?_eq_getElem (by omega)⟩
  have hqr:shdP q=shdP r:=by
   have h1:(x.S.map shdP)[k]?=(y.S.map shdP)[k]?:=by rw [hx.2.2,hy.2.2]
   rw [List.getElem?_map,List.getElem?_map,hq,hr] at h1
   exact Option.some.inj h1
  have hqm:=List.mem_of_getElem? hq
  have hrm:=List.mem_of_getElem? hr
  have hQ:=hx.2.1.2.2.2 q hqm
  have hR:=hy.2.1.2.2.2 r hrm
  have e1:q.L.map acP=r.L.map acP:=congrArg Prod.fst hqr
  have e2:q.v=r.v:=congrArg Prod.snd hqr
  obtain ⟨ra,rn,rc,rL,rv⟩:=r
  have e2:q.v=rv:=e2
  subst e2
  conv=>arg 5;whnf
  refine wp_must ⟨by omega,by show (k:Int)<(x.S.length:Int);omega,hs.some hlt⟩ ?_
  conv=>arg 5;whnf
  refine readG Sxt.env_ok.keeps (vs:=q.cs) (sz:=2) (k:=k) rfl rfl (show rowF (pt x.sa x.S.length) (cellsS x.S)∈sgF x s++sgF y s from .tail _ (.head _)) hlt (hs.some hlt) (cellsS_at hq) rfl ?_
  conv=>arg 5;whnf
  refine wp_must ⟨by omega,by show (k:Int)<(y.S.length:Int);omega,ht.some (show k<y.S.length by omega)⟩ ?_
  conv=>arg 5;whnf
  refine readG Sxt.env_ok.keeps (vs:=(⟨ra,rn,rc,rL,q.v⟩:Shd).cs) (sz:=2) (k:=k) rfl rfl (show rowF (pt y.sa y.S.length) (cellsS y.S)∈sgF x s++sgF y s from List.mem_append_right _ (.tail _ (.head _))) (show k<y.S.length by omega) (ht.some (show k<y.S.length by omega)) (cellsS_at hr) rfl ?_
  conv=>arg 5;whnf
  refine meetc (f:=71) (v:=.bool true) rfl (by kernel_rfl) (fun β ρ w' hM'=>shard.rsame11 q.L rL e1 q.v q.a q.n q.c ra rn rc w' (Mem.acs hQ hM' fun φ hφ=>(show φ∈sgF x s++sgF y s from List.mem_append_left _ (.tail _ (.tail _ (List.mem_flatMap.2 ⟨q,hqm,hφ⟩))))) (Mem.acs hR hM' fun φ hφ=>(show φ∈sgF x s++sgF y s from List.mem_append_right _ (.tail _ (.tail _ (List.mem_flatMap.2 ⟨_,hrm,hφ⟩)))))) ?_
  conv=>arg 5;whnf
  refine wp_must ⟨by show -9223372036854775808≤(k:Int)+1;omega,by show (k:Int)+1≤9223372036854775807;omega⟩ ?_
  conv=>arg 5;whnf
  refine wp_end ⟨k+1,hlt,⟨by repeat' first | exact trivial | refine ⟨.inl rfl,?_⟩ | refine ⟨.inr rfl,?_⟩,⟨by repeat' first | exact trivial | refine ⟨.inl rfl,?_⟩ | refine ⟨.inr rfl,?_⟩,by repeat' first | exact trivial | refine ⟨.inl rfl,?_⟩ | refine ⟨.inr rfl,?_⟩,fun _ h=>h⟩,rfl⟩,by show x.S.length - (k+1)<x.S.length - k;omega⟩
 ·skip
  conv=>arg 5;whnf
  exact wp_back fun β ρ w' hM'=>⟨rfl,hM'.below⟩
end Go.Proofs.YtfhgkkcpkcjbmaaGreatDoor.task
namespace Go.Proofs.YtfhgkkcpkcjbmaaGreatDoor.task
open Go.RowKit Sx txn queue greedy shard pool Go.Proofs.YtfhgkkcpkcjbmaaGreatDoor.look lock
def openS (C:Cf):Sg:=⟨C,lock.newV C.sh,0,pot.newM C.hd,List.replicate C.sh.toNat ([],0)⟩
def shd0:Shd:=⟨none,0,0,[],0⟩
theorem reps_shd:∀(k:Nat),reps k [Value.slice none 0 0,.int .i64 0]=cellsS (List.replicate k shd0)
 | 0=>rfl
 | k+1=>by
  rw [List.replicate_succ]
  show [Value.slice none 0 0,.int .i64 0]++reps k [Value.slice none 0 0,.int .i64 0]=shd0.cs++cellsS (List.replicate k shd0)
  rw [reps_shd k]
  rfl
theorem open_ (C:Cf) (w:World) (hC:cfgB C=true) :
  Calls Tryz.prog 50 (List.toArray [C.val]) w fun e w'=>∃x:Sn,Sgo x (openS C)∧Lay w w' [] e (.tuple #[sgV (openS C) x,.int .i64 0]) (sgF x (openS C)):=by
 have CF:=fun w=>config C w
 have LN:=fun w=>lock.new_ C.sh w
 have PN:=fun w=>pot.new_ C.hd w
 have hb:=cfg_bd hC
 have hnl:(lock.newV C.sh).length=C.sh.toNat:=by unfold lock.newV;rw [if_pos ⟨hb.1,hb.2.1⟩,List.length_replicate]
 rw [hC] at CF
 refine calls_of_exec (Sxt.env_ok.keeps.open_ [1000001] true) Tryz.func50 rfl [(5,(line [0,1,2,3,4,5,6,7,8],[1]))] (schedQ_ok _ _ (by kernel_rfl)) [] (by simp) ?_
 conv=>arg 5;whnf
 refine meetc (f:=96) (v:=.bool true) rfl (by kernel_rfl) (fun β ρ w' hM'=>CF w') ?_
 conv=>arg 5;whnf
 refine meet1F (f:=97) (n:=(lock.newV C.sh).length) (v:=fun a1 c1=>.tuple #[.slice a1 (lock.newV C.sh).length c1,.int .i64 (lock.newE C.sh)]) (xs:=ic (lock.newV C.sh)) rfl (by kernel_rfl) (fun β ρ w' hM'=>LN w') (fun u c_u h_u f_u=>?_)
 conv=>arg 5;whnf
 refine meetc (f:=98) (v:=.tuple #[pot.two 0 (pot.newM C.hd),.int .i64 (pot.newE C.hd)]) rfl (by kernel_rfl) (fun β ρ w' hM'=>PN w') ?_
 conv=>arg 5;whnf
 refine op_makeS Sxt.env_ok (j:=C.sh) (el:=125) (size:=2) (bytes:=32) (zt:=[.v (.slice none 0 0),.v (.int .i64 0)]) (zs:=[.slice none 0 0,.int .i64 0]) rfl rfl rfl (by kernel_rfl) (by kernel_rfl) rfl rfl (by omega) (by omega) (by omega) (fun g hg=>?_)
 conv=>arg 5;whnf
 have hsh:Sl (some ⟨g,0,none⟩) C.sh.toNat C.sh.toNat:=⟨Nat.le_refl _,by unfold maxLen;omega,fun h=>by cases h⟩
 refine wp_back fun β ρ w' hM'=>⟨⟨u,c_u,some ⟨g,0,none⟩,C.sh.toNat,List.replicate C.sh.toNat shd0⟩,⟨h_u,by rw [List.length_replicate];exact hsh,fun q hq=>?_,?_⟩,?_,hM'.below,fun φ hφ g2 hg2=>?_⟩
 ·rw [(List.mem_replicate.1 hq).2]
  exact ⟨sl0,rfl,fun z hz=>by cases hz⟩
 ·show (List.replicate C.sh.toNat shd0).map shdP=List.replicate C.sh.toNat ([],0)
  rw [List.map_replicate]
  rfl
 ·unfold sgV
  rw [List.length_replicate]
  rfl
 ·rcases List.mem_cons.1 hφ with rfl | hφ
  ·exact ⟨.inl (f_u g2 hg2),(hM'.fact (rowF (pt u (lock.newV C.sh).length) (ic (lock.newV C.sh))) (.tail _ (.head _)) g2 hg2).2⟩
  ·rcases List.mem_cons.1 hφ with rfl | hφ
   ·rw [List.length_replicate,← reps_shd] at hg2 ⊢
    exact pt_mem C.sh.toNat hM' (.head _) (fun ad had=>.inl (by cases had;exact hg)) g2 hg2
   ·obtain ⟨q,hq,hφ⟩:=List.mem_flatMap.1 hφ
    rw [(List.mem_replicate.1 hq).2] at hφ
    rcases List.mem_cons.1 hφ with rfl | hφ
    ·cases hg2
    ·cases hφ
end Go.Proofs.YtfhgkkcpkcjbmaaGreatDoor.task
namespace Go.Proofs.YtfhgkkcpkcjbmaaGreatDoor.task
open Go.RowKit Go.ChangeShapes Go.WideShapes Sx txn queue greedy shard pool Go.Proofs.YtfhgkkcpkcjbmaaGreatDoor.look lock
abbrev shCf:List Sh:=[.int,.int,.int,.int,.int,.int,.int,.int]
abbrev shShd:Sh:=.flat [.row (.flat [.int,.int,.row (.flat shTx)]),.int]
theorem typed_ints:Typed Tryz.prog 24 (.row .int):=.row Tryz.underlying24 (by kernel_rfl) typed_int (by decide)
theorem typed_pot:Typed Tryz.prog 26 (.flat [.int,.int]):=.struct Tryz.underlying26 (.cons rfl typed_int (.cons rfl typed_int .nil)) (by kernel_rfl)
theorem typed_sight:Typed Tryz.prog 29 (.flat [.flat shCf,.row .int,.flat [.int,.int],.row shShd]):=.struct Tryz.underlying29 (.cons rfl typed_cfg (.cons rfl typed_ints (.cons rfl typed_pot (.cons rfl typed_shards .nil)))) (by kernel_rfl)
def Sg.fits (s:Sg):Prop:=Fits s.C.sh∧Fits s.C.so∧Fits s.C.hd∧Fits s.t∧Fits s.m∧∀z∈s.l,Fits z
theorem lies_cf {w:World} {vs:List Value} {ds:List D} (h:LiesL w shCf vs ds):∃C:Cf,vs=[.int .i64 C.sh,.int .i64 C.so,.int .i64 C.hd,.int .i64 C.per,.int .i64 C.bp,.int .i64 C.fd,.int .i64 C.wk,.int .i64 C.rm]∧Fits C.sh∧Fits C.so∧Fits C.hd:=by
 cases h with
 | cons h0 h=>
 cases h with
 | cons h1 h=>
 cases h with
 | cons h2 h=>
 cases h with
 | cons h3 h=>
 cases h with
 | cons h4 h=>
 cases h with
 | cons h5 h=>
 cases h with
 | cons h6 h=>
 cases h with
 | cons h7 h=>
 cases h
 cases h0 with
 | int f0=>
 cases h1 with
 | int f1=>
 cases h2 with
 | int f2=>
 cases h3 with
 | int f3=>
 cases h4 with
 | int f4=>
 cases h5 with
 | int f5=>
 cases h6 with
 | int f6=>
 cases h7 with
 | int f7=>
 exact ⟨⟨_,_,_,_,_,_,_,_⟩,rfl,f0,f1,f2⟩
theorem LiesN.intsT {w:World}:∀{vs:List Value} {ds:List D},LiesN w .int vs ds→∃l:List Int,vs=ic l∧ds.length=l.length∧∀z∈l,Fits z
 | _,_,.nil=>⟨[],rfl,rfl,by simp⟩
 | _,_,.cons h hl=>by
  obtain ⟨l,rfl,h2,h3⟩:=LiesN.intsT hl
  cases h with
  | int f=>
   refine ⟨_::l,rfl,by simp [h2],fun z hz=>?_⟩
   rcases List.mem_cons.1 hz with rfl | hz
   ·exact f
   ·exact h3 z hz
theorem lies_two {w:World} {vs:List Value} {ds:List D} (h:LiesL w [.int,.int] vs ds):∃x y,vs=[.int .i64 x,.int .i64 y]∧Fits x∧Fits y:=by
 cases h with
 | cons h0 h=>
 cases h with
 | cons h1 h=>
 cases h
 cases h0 with
 | int f0=>
 cases h1 with
 | int f1=>
 exact ⟨_,_,rfl,f0,f1⟩
section
variable {H : Type} {enc : TypeId × Value → H} {W : World} {r : Reach} {b0 base : Nat} {spare : Nat → Bool} {held : Bool} {v : Value} {d : DataW H} {p : List MemPlace}
theorem open_sight (hv:Value.okWide Tryz.prog W r b0 29 v) (h:DataW.Trod enc Tryz.prog W base spare held 29 v d p):∃(s:Sg) (x:Sn),v=sgV s x∧SgIn W x s∧s.fits:=by
 obtain ⟨vs,ds,rfl,hl⟩:=open_struct Tryz.underlying29 typed_sight hv h
 cases hl with
 | cons h0 hl=>
 cases hl with
 | cons h1 hl=>
 cases hl with
 | cons h2 hl=>
 cases hl with
 | cons h3 hl=>
 cases hl
 cases h0 with
 | flat h0=>
 obtain ⟨C,rfl,c1,c2,c3⟩:=lies_cf h0
 cases h1 with
 | row s1 n1 l1 a1=>
 obtain ⟨l,rfl,l2,l3⟩:=LiesN.intsT l1
 cases h2 with
 | flat h2=>
 obtain ⟨t,m,rfl,f1,f2⟩:=lies_two h2
 cases h3 with
 | row s4 n4 l4 a4=>
 obtain ⟨S,rfl,S2,S3⟩:=LiesN.shards l4
 rw [l2] at n1
 rw [S2] at n4
 subst n1 n4
 exact ⟨⟨C,l,t,m,S.map shdP⟩,⟨_,_,_,_,S⟩,rfl,⟨⟨s1,a1⟩,⟨s4,rfl,a4,S3⟩,rfl⟩,c1,c2,c3,f1,f2,l3⟩
end
end Go.Proofs.YtfhgkkcpkcjbmaaGreatDoor.task
namespace Go.Proofs.YtfhgkkcpkcjbmaaGreatDoor.task
open Go.RowKit Sx txn queue greedy shard pool Go.Proofs.YtfhgkkcpkcjbmaaGreatDoor.look lock
theorem rsameS2 {s s2:Sg} (h:s=s2) (x y:Sn) (w:World) (hx:Sgs w x s) (hy:Sgs w y s2) :
  Calls Tryz.prog 28 (List.toArray [sgV s x,sgV s2 y]) w fun e w'=>e=.returned (.bool true)∧Below w.heap.size w w':=by
 subst h
 exact rsameS s x y w hx hy
end Go.Proofs.YtfhgkkcpkcjbmaaGreatDoor.task
