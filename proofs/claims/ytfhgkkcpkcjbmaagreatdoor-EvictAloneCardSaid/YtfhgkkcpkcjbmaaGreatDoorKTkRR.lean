/- What is wanted of ShAll besides. -/
import Derived.Test.YtfhgkkcpkcjbmaaGreatDoorKPoAll
import Derived.Test.YtfhgkkcpkcjbmaaGreatDoorKTkAA
import Derived.Test.YtfhgkkcpkcjbmaaGreatDoorKTkJJ
import Derived.Test.YtfhgkkcpkcjbmaaGreatDoorKSxx
set_option linter.all false
set_option maxHeartbeats 4000000
set_option maxRecDepth 100000
namespace Go.Proofs.YtfhgkkcpkcjbmaaGreatDoor.shard
section
variable {α β : Type}
def srt (f:α→Int) (L:List α):List α:=L.foldl (fun a x=>ins f x a) []
theorem ins_map (f:α→Int) (g:β→Int) (h:α→β) (hf:∀x,g (h x)=f x) (x:α) (l:List α):(ins f x l).map h=ins g (h x) (l.map h):=by
 induction l with
 | nil=>rfl
 | cons y l ih=>
  unfold ins
  rw [List.map_cons]
  simp only [hf]
  split
  ·rfl
  ·rw [List.map_cons,ih]
theorem srt_map (f:α→Int) (g:β→Int) (h:α→β) (hf:∀x,g (h x)=f x) (L:List α):(srt f L).map h=srt g (L.map h):=by
 unfold srt
 have:∀(a:List α),(L.foldl (fun a x=>ins f x a) a).map h=(L.map h).foldl (fun a x=>ins g x a) (a.map h):=by
  induction L with
  | nil=>intro a;rfl
  | cons x L ih=>intro a;rw [List.foldl_cons,ih,ins_map f g h hf,List.map_cons,List.foldl_cons]
 exact this []
theorem srt_perm (f:α→Int) (L:List α):(srt f L).Perm L:=by
 unfold srt
 have:∀(a:List α),(L.foldl (fun a x=>ins f x a) a).Perm (a++L):=by
  induction L with
  | nil=>intro a;simp
  | cons x L ih=>
   intro a
   rw [List.foldl_cons]
   refine (ih _).trans ?_
   have:=(ins_perm f x a).append_right L
   refine this.trans ?_
   rw [List.cons_append]
   exact List.perm_middle.symm
 exact this []
theorem ins_sorted (f:α→Int) (x:α) {l:List α} (h:l.Pairwise (fun a b=>f a≤f b)):(ins f x l).Pairwise (fun a b=>f a≤f b):=by
 induction l with
 | nil=>simp [ins]
 | cons y l ih=>
  rw [List.pairwise_cons] at h
  unfold ins
  split
  ·rename_i hlt
   refine List.pairwise_cons.2 ⟨fun z hz=>?_,List.pairwise_cons.2 h⟩
   rcases List.mem_cons.1 hz with rfl | hz
   ·omega
   ·have:=h.1 z hz;omega
  ·rename_i hlt
   refine List.pairwise_cons.2 ⟨fun z hz=>?_,ih h.2⟩
   rcases List.mem_cons.1 ((ins_perm f x l).mem_iff.1 hz) with rfl | hz
   ·omega
   ·exact h.1 z hz
theorem srt_sorted (f:α→Int) (L:List α):(srt f L).Pairwise (fun a b=>f a≤f b):=by
 unfold srt
 have:∀(a:List α),a.Pairwise (fun a b=>f a≤f b)→(L.foldl (fun a x=>ins f x a) a).Pairwise (fun a b=>f a≤f b):=by
  induction L with
  | nil=>intro a h;exact h
  | cons x L ih=>intro a h;rw [List.foldl_cons];exact ih _ (ins_sorted f x h)
 exact this [] List.Pairwise.nil
end
end Go.Proofs.YtfhgkkcpkcjbmaaGreatDoor.shard
namespace Go.Proofs.YtfhgkkcpkcjbmaaGreatDoor.shard
open Go.RowKit Sx txn queue greedy
def allS (S:List Shd):List Ac:=S.flatMap Shd.L
end Go.Proofs.YtfhgkkcpkcjbmaaGreatDoor.shard
namespace Go.Proofs.YtfhgkkcpkcjbmaaGreatDoor.fnv
open Go.RowKit
theorem rshard_no (s n:Int) (w:World) (h:s<0∨255<s∨n<1∨8<n) :
  Calls Tryz.prog 95 #[.int .i64 s,.int .i64 n] w fun e w'=>e=.returned (.int .i64 (-1))∧w=w':=by
 have h':s<0∨(0≤s∧255<s)∨(0≤s∧s≤255∧n<1)∨(0≤s∧s≤255∧1≤n∧8<n):=by omega
 clear h
 rcases h' with h | ⟨h,h1⟩ | ⟨h,h1,h2⟩ | ⟨h,h1,h2,h3⟩
 all_goals
  go_enter Tryz.func95,Tryz.ntmps95
  go_wp2_with fail
  go_ret
  exact ⟨rfl,rfl⟩
theorem rshard_in (b:UInt8) (n:Int) (w:World) (h0:1≤n) (h1:n≤8) :
  Calls Tryz.prog 95 #[.int .i64 b.toNat,.int .i64 n] w fun e w'=>e=.returned (.int .i64 (hof [b] % n))∧Below w.heap.size w w':=by
 have hb:(b.toNat:Int)≤255:=by have:=b.toNat_lt;omega
 have hv:=one_string b w
 have hd:=hstep_bd 14695981039346656037 b
 have hof':hof [b]=hstep 14695981039346656037 b:=rfl
 have ho:∀w,Calls Tryz.prog 150 #[.string ⟨#[b]⟩] w fun e w'=>e=.returned (.int .u64 (hof [b]))∧w=w':=fun w=>rof_any ⟨#[b]⟩ w (by show 1≤2 ^ 63 - 1;decide)
 have HO:=Lib.hid ho
 rw [hof'] at HO ⊢
 clear ho hof'
 generalize hstep 14695981039346656037 b=v at hd HO ⊢
 have c2:v % n≤9223372036854775807:=by have:=Int.emod_lt_of_pos v (show 0<n by omega);omega
 have c3:0≤v % n:=Int.emod_nonneg _ (by omega)
 go_enter Tryz.func95,Tryz.ntmps95
 go_wp2_with fail
 refine (HO.out _).mono ?_
 rintro e w' ⟨rfl,rfl⟩
 go_wp2_with fail
 go_ret
 exact ⟨rfl,(Below.refl _ _).alloc (Nat.le_refl _) _⟩
theorem rshard_any (s n:Int) (w:World) :
  Calls Tryz.prog 95 #[.int .i64 s,.int .i64 n] w fun e w'=>e=.returned (.int .i64 (shardV s n))∧Below w.heap.size w w':=by
 unfold shardV
 by_cases h:0≤s∧s≤255∧1≤n∧n≤8
 ·rw [if_pos h]
  obtain ⟨h0,h1,h2,h3⟩:=h
  have e:s=((UInt8.ofNat s.toNat).toNat:Int):=by
   rw [UInt8.toNat_ofNat']
   omega
  generalize UInt8.ofNat s.toNat=b at e ⊢
  subst e
  exact rshard_in b n w h2 h3
 ·rw [if_neg h]
  exact (rshard_no s n w (by omega)).mono fun e w' ⟨he,hw⟩=>⟨he,hw▸Below.refl _ _⟩
end Go.Proofs.YtfhgkkcpkcjbmaaGreatDoor.fnv
namespace Go.Proofs.YtfhgkkcpkcjbmaaGreatDoor.shard
open Go.RowKit Go.ChangeShapes Go.WideShapes Sx txn queue greedy
def ShsIn (w:World) (a:Option Addr) (n c:Nat) (S:List Shd):Prop:=Sl a n c∧n=S.length∧At w (pt a n) (cellsS S)∧∀q∈S,AccsIn w q.a q.n q.c q.L∧Fits q.v
theorem ShsIn.facts {w:World} {a n c S} (h:ShsIn w a n c S):∀φ∈shsF a n S,∀g,φ.g=some g→∃o,w.heap[g]?=some o∧φ.holds o:=by
 intro φ hφ
 rcases List.mem_cons.1 hφ with rfl | hφ
 ·exact h.2.2.1
 ·obtain ⟨q,hq,hφ⟩:=List.mem_flatMap.1 hφ
  exact (h.2.2.2 q hq).1.facts φ hφ
theorem ShsIn.mem {W:World} {G:Option Nat} {m:M} {β ρ} {w w0:World} {a n c S} (h0:ShsIn w0 a n c S) (hM:Mem W G m β ρ w) (hm:∀φ∈shsF a n S,φ∈m.facts):ShsIn w a n c S:=
 ⟨h0.1,h0.2.1,hM.at_ (hm _ (.head _)),fun q hq=>⟨(h0.2.2.2 q hq).1.mem hM fun φ hφ=>hm φ (.tail _ (List.mem_flatMap.2 ⟨q,hq,hφ⟩)),(h0.2.2.2 q hq).2⟩⟩
end Go.Proofs.YtfhgkkcpkcjbmaaGreatDoor.shard

namespace Go.Proofs.YtfhgkkcpkcjbmaaGreatDoor.shard
open Go.RowKit Go.ChangeShapes Go.WideShapes Sx txn queue greedy
theorem typed_shard:Typed Tryz.prog 109 (.flat [.row (.flat [.int,.int,.row (.flat shTx)]),.int]):=.struct Tryz.underlying109 (.cons rfl typed_accs (.cons rfl typed_int .nil)) (by kernel_rfl)
theorem typed_shards:Typed Tryz.prog 27 (.row (.flat [.row (.flat [.int,.int,.row (.flat shTx)]),.int])):=.row Tryz.underlying27 (by kernel_rfl) typed_shard (by decide)
theorem lies_shard {w:World} {vs:List Value} {ds:List D} (h:LiesL w [.row (.flat [.int,.int,.row (.flat shTx)]),.int] vs ds):∃q:Shd,vs=q.cs∧AccsIn w q.a q.n q.c q.L∧Fits q.v:=by
 cases h with
 | cons h1 h=>
 cases h with
 | cons h4 h=>
 cases h
 cases h1 with
 | row hs hn hl' ha=>
 cases h4 with
 | int f2=>
  obtain ⟨L,rfl,h6,h7⟩:=LiesN.accs hl'
  exact ⟨⟨_,_,_,L,_⟩,rfl,⟨hs,by simp only [];omega,ha,h7⟩,f2⟩
theorem LiesN.shards {w:World}:∀{vs:List Value} {ds:List D},LiesN w (.flat [.row (.flat [.int,.int,.row (.flat shTx)]),.int]) vs ds→∃S:List Shd,vs=cellsS S∧ds.length=S.length∧∀q∈S,AccsIn w q.a q.n q.c q.L∧Fits q.v
 | _,_,.nil=>⟨[],rfl,rfl,by simp⟩
 | _,_,.cons h hl=>by
  obtain ⟨S,rfl,h2,h3⟩:=LiesN.shards hl
  cases h with
  | flat h=>
   obtain ⟨q,rfl,hq⟩:=lies_shard h
   refine ⟨q::S,rfl,by simp [h2],fun p hp=>?_⟩
   rcases List.mem_cons.1 hp with rfl | hp
   ·exact hq
   ·exact h3 p hp
end Go.Proofs.YtfhgkkcpkcjbmaaGreatDoor.shard
namespace Go.Proofs.YtfhgkkcpkcjbmaaGreatDoor.shard
section
variable {α β : Type}
theorem srt_len (f:α→Int) (L:List α):(srt f L).length=L.length:=(srt_perm f L).length_eq
theorem srt_snoc (f:α→Int) (L:List α) (x:α):srt f (L++[x])=ins f x (srt f L):=by unfold srt;rw [List.foldl_append];rfl
end
end Go.Proofs.YtfhgkkcpkcjbmaaGreatDoor.shard
namespace Go.Proofs.YtfhgkkcpkcjbmaaGreatDoor.shard
open Go.RowKit Sx txn queue greedy
theorem allS_take {S:List Shd} {k:Nat} {q:Shd} (h:S[k]?=some q):allS (S.take (k+1))=allS (S.take k)++q.L:=by unfold allS;rw [List.take_add_one,h,List.flatMap_append];simp
theorem allS_le (S:List Shd) (k:Nat):(allS (S.take k)).length≤(allS S).length:=by
 have:allS S=allS (S.take k)++allS (S.drop k):=by unfold allS;rw [← List.flatMap_append,List.take_append_drop]
 rw [this,List.length_append];omega
theorem acF_all {a n} {S:List Shd} {x:Ac} (hx:x∈allS S):acF x∈shsF a n S:=by
 obtain ⟨q,hq,hx⟩:=List.mem_flatMap.1 hx
 exact .tail _ (List.mem_flatMap.2 ⟨q,hq,.tail _ (List.mem_map.2 ⟨x,hx,rfl⟩)⟩)
end Go.Proofs.YtfhgkkcpkcjbmaaGreatDoor.shard
namespace Go.Proofs.YtfhgkkcpkcjbmaaGreatDoor.shard
open Go.RowKit Sx txn queue greedy
theorem rjoin (S:List Shd) (a:Option Addr) (n c:Nat) (w:World) (hS:Shs w a n c S) (hn1:n≤100000) (hall:(allS S).length≤100000) :
  Calls Tryz.prog 16 (List.toArray [.slice a n c]) w fun e w'=>∃i:One,Sl i.1 (srt (fun x:Ac=>x.s) (allS S)).length i.2∧Gives w w' e (.slice i.1 (srt (fun x:Ac=>x.s) (allS S)).length i.2) [rowF (pt i.1 (srt (fun x:Ac=>x.s) (allS S)).length) (cellsA (srt (fun x:Ac=>x.s) (allS S)))]:=by
 have hs:=hS.1
 have hn:=hS.2.1
 have hn63:=hs.le
 refine calls_of_exec Sxs.env_ok.keeps Tryz.func16 rfl [] (schedQ_ok _ _ (by kernel_rfl)) (shsF a n S) hS.facts ?_
 conv=>arg 5;whnf
 refine loop_fact (rowF none []) (fun g hg=>by cases hg) ?_
 refine loop_rule Sxs.env_ok.keeps [] (schedQ_ok _ _ (by kernel_rfl)) (fun i:Nat×One=>i.1≤n∧Sl i.2.1 (srt (fun x:Ac=>x.s) (allS (S.take i.1))).length i.2.2∧(∀g,(rowF (pt i.2.1 (srt (fun x:Ac=>x.s) (allS (S.take i.1))).length) (cellsA (srt (fun x:Ac=>x.s) (allS (S.take i.1))))).g=some g→w.heap.size≤g)) (fun i=>(⟨[],[],rowF (pt i.2.1 (srt (fun x:Ac=>x.s) (allS (S.take i.1))).length) (cellsA (srt (fun x:Ac=>x.s) (allS (S.take i.1))))::shsF a n S⟩,[.v (.slice a n c),.any,.any,.v (.slice i.2.1 (srt (fun x:Ac=>x.s) (allS (S.take i.1))).length i.2.2),.v (.int .i64 i.1),.any,.any,.any,.any,.any,.any,.any,.any,.any,.any,.any,.any,.any,.any,.any,.any,.any,.any,.any,.any,.any,.any,.any,.any,.any,.any,.any,.any])) (fun i=>n - i.1) (0,(none,0)) ⟨Nat.zero_le _,⟨Nat.le_refl _,Nat.zero_le _,fun _=>⟨rfl,rfl⟩⟩,fun g hg=>by cases hg⟩ ⟨by repeat' first | exact trivial | refine ⟨.inl rfl,?_⟩ | refine ⟨.inr rfl,?_⟩,⟨by repeat' first | exact trivial | refine ⟨.inl rfl,?_⟩ | refine ⟨.inr rfl,?_⟩,by repeat' first | exact trivial | refine ⟨.inl rfl,?_⟩ | refine ⟨.inr rfl,?_⟩,fun _ h=>h⟩,rfl⟩ ?_
 rintro ⟨k,o⟩ ⟨hk,ho,hfr⟩
 have hk:k≤n:=hk
 have ho:Sl o.1 (srt (fun x:Ac=>x.s) (allS (S.take k))).length o.2:=ho
 conv=>arg 5;whnf
 refine wp_br (fun h1=>?_) (fun h1=>?_)
 ·have hlt:k<n:=by have h3:=of_decide_eq_true (show decide ((k:Int)<(n:Int))=true from h1);omega
  obtain ⟨q,hq⟩:∃q,S[k]?=some q:=⟨_,List.getElem?_eq_getElem (by omega)⟩
  have hqm:q∈S:=List.mem_of_getElem? hq
  obtain ⟨qs,qn,qa,qx⟩:=hS.2.2.2 q hqm
  have htk:=allS_take hq
  have hb1:=allS_le S (k+1)
  have hq63:=qs.le
  have hmem:rowF (pt q.a q.n) (cellsA q.L)∈shsF a n S:=.tail _ (List.mem_flatMap.2 ⟨q,hqm,.head _⟩)
  conv=>arg 5;whnf
  refine loop_rule Sxs.env_ok.keeps [] (schedQ_ok _ _ (by kernel_rfl)) (fun i:Nat×One=>i.1≤q.n∧Sl i.2.1 (srt (fun x:Ac=>x.s) (allS (S.take k)++q.L.take i.1)).length i.2.2∧(∀g,(rowF (pt i.2.1 (srt (fun x:Ac=>x.s) (allS (S.take k)++q.L.take i.1)).length) (cellsA (srt (fun x:Ac=>x.s) (allS (S.take k)++q.L.take i.1)))).g=some g→w.heap.size≤g)) (fun i=>(⟨[],[],rowF (pt i.2.1 (srt (fun x:Ac=>x.s) (allS (S.take k)++q.L.take i.1)).length) (cellsA (srt (fun x:Ac=>x.s) (allS (S.take k)++q.L.take i.1)))::shsF a n S⟩,[.v (.slice a n c),.any,.any,.v (.slice i.2.1 (srt (fun x:Ac=>x.s) (allS (S.take k)++q.L.take i.1)).length i.2.2),.v (.int .i64 k),.v (.int .i64 i.1),.any,.any,.any,.any,.any,.any,.any,.any,.any,.any,.any,.any,.any,.any,.any,.any,.any,.any,.any,.any,.any,.any,.any,.any,.any,.any,.any])) (fun i=>q.n - i.1) (0,o) ⟨Nat.zero_le _,by rw [List.take_zero,List.append_nil];exact ho,by rw [List.take_zero,List.append_nil];exact hfr⟩ (by rw [List.take_zero,List.append_nil];exact ⟨by repeat' first | exact trivial | refine ⟨.inl rfl,?_⟩ | refine ⟨.inr rfl,?_⟩,⟨by repeat' first | exact trivial | refine ⟨.inl rfl,?_⟩ | refine ⟨.inr rfl,?_⟩,by repeat' first | exact trivial | refine ⟨.inl rfl,?_⟩ | refine ⟨.inr rfl,?_⟩,fun _ h=>h⟩,rfl⟩) ?_
  rintro ⟨t,p⟩ ⟨ht,hp,hpf⟩
  have ht:t≤q.n:=ht
  have hp:Sl p.1 (srt (fun x:Ac=>x.s) (allS (S.take k)++q.L.take t)).length p.2:=hp
  conv=>arg 5;whnf
  refine wp_must ⟨by omega,by show (k:Int)<(n:Int);omega,hs.some hlt⟩ ?_
  conv=>arg 5;whnf
  refine readF (sz:=2) (k:=k) (f:=0) (.slice q.a q.n q.c) rfl (by exact .tail _ (.head _)) hlt (hs.some hlt) (cellsS_at hq 0 _ rfl) rfl ?_
  conv=>arg 5;whnf
  refine wp_br (fun h2=>?_) (fun h2=>?_)
  ·have hlt2:t<q.n:=by have h3:=of_decide_eq_true (show decide ((t:Int)<(q.n:Int))=true from h2);omega
   obtain ⟨x,hx⟩:∃x,q.L[t]?=some x:=⟨_,List.getElem?_eq_getElem (by omega)⟩
   have htt:srt (fun x:Ac=>x.s) (allS (S.take k)++q.L.take (t+1))=ins (fun x:Ac=>x.s) x (srt (fun x:Ac=>x.s) (allS (S.take k)++q.L.take t)):=by rw [List.take_add_one,hx,← List.append_assoc];exact srt_snoc _ _ _
   have hl9:(srt (fun x:Ac=>x.s) (allS (S.take k)++q.L.take t)).length≤1000000:=by
    rw [srt_len,List.length_append,List.length_take]
    rw [htk,List.length_append] at hb1
    omega
   have PT:=fun w hr=>rput (srt (fun x:Ac=>x.s) (allS (S.take k)++q.L.take t)) x p.1 _ p.2 w hp rfl hr hl9
   rw [← htt] at PT
   conv=>arg 5;whnf
   refine wp_must ⟨by omega,by show (k:Int)<(n:Int);omega,hs.some hlt⟩ ?_
   conv=>arg 5;whnf
   refine readF (sz:=2) (k:=k) (f:=0) (.slice q.a q.n q.c) rfl (by exact .tail _ (.head _)) hlt (hs.some hlt) (cellsS_at hq 0 _ rfl) rfl ?_
   conv=>arg 5;whnf
   refine wp_must ⟨by omega,by show (t:Int)<(q.n:Int);omega,qs.some hlt2⟩ ?_
   conv=>arg 5;whnf
   refine readG Sxs.env_ok (vs:=x.cs) (sz:=3) (k:=t) rfl rfl (by exact .tail _ hmem) hlt2 (qs.some hlt2) (cellsA_at hx) rfl ?_
   conv=>arg 5;whnf
   refine meet1F (f:=54) (n:=(srt (fun x:Ac=>x.s) (allS (S.take k)++q.L.take (t+1))).length) (v:=fun a1 c1=>.slice a1 (srt (fun x:Ac=>x.s) (allS (S.take k)++q.L.take (t+1))).length c1) (xs:=cellsA (srt (fun x:Ac=>x.s) (allS (S.take k)++q.L.take (t+1)))) rfl (by kernel_rfl) (fun β ρ w' hM'=>PT w' (hM'.at_ (.head _))) (fun y c_y h_y f_y=>?_)
   conv=>arg 5;whnf
   refine wp_must ⟨by show -9223372036854775808≤(t:Int)+1;omega,by show (t:Int)+1≤9223372036854775807;omega⟩ ?_
   conv=>arg 5;whnf
   refine wp_end ⟨(t+1,(y,c_y)),⟨hlt2,h_y,f_y⟩,⟨by repeat' first | exact trivial | refine ⟨.inl rfl,?_⟩ | refine ⟨.inr rfl,?_⟩,⟨by repeat' first | exact trivial | refine ⟨.inl rfl,?_⟩ | refine ⟨.inr rfl,?_⟩,by repeat' first | exact trivial | refine ⟨.inl rfl,?_⟩ | refine ⟨.inr rfl,?_⟩,fun φ hφ=>(List.mem_cons.1 hφ).elim (fun e=>by subst e;exact .head _) fun h=>.tail _ (.tail _ h)⟩,rfl⟩,by show q.n - (t+1)<q.n - t;omega⟩
  ·have hte:t=q.n:=by have h3:=of_decide_eq_false (show decide ((t:Int)<(q.n:Int))=false from h2);omega
   have e:q.L.take t=q.L:=List.take_of_length_le (by omega)
   rw [e,← htk] at hp hpf
   conv=>arg 5;whnf
   refine wp_must ⟨by show -9223372036854775808≤(k:Int)+1;omega,by show (k:Int)+1≤9223372036854775807;omega⟩ ?_
   conv=>arg 5;whnf
   refine wp_end ⟨(k+1,p),⟨hlt,hp,hpf⟩,(by rw [e,← htk];exact ⟨by repeat' first | exact trivial | refine ⟨.inl rfl,?_⟩ | refine ⟨.inr rfl,?_⟩,⟨by repeat' first | exact trivial | refine ⟨.inl rfl,?_⟩ | refine ⟨.inr rfl,?_⟩,by repeat' first | exact trivial | refine ⟨.inl rfl,?_⟩ | refine ⟨.inr rfl,?_⟩,fun _ h=>h⟩,rfl⟩),by show n - (k+1)<n - k;omega⟩
 ·have hkn:k=n:=by have h3:=of_decide_eq_false (show decide ((k:Int)<(n:Int))=false from h1);omega
  have e:S.take k=S:=List.take_of_length_le (by omega)
  rw [e] at ho hfr
  rw [e]
  conv=>arg 5;whnf
  refine wp_back fun β ρ w' hM'=>⟨o,ho,rfl,hM'.below,fun φ hφ g' hg'=>?_⟩
  simp only [List.mem_singleton] at hφ
  subst hφ
  exact ⟨hfr g' hg',hM'.at_ (.head _) g' hg'⟩
end Go.Proofs.YtfhgkkcpkcjbmaaGreatDoor.shard
namespace Go.Proofs.YtfhgkkcpkcjbmaaGreatDoor.task
open Go.RowKit Sx txn queue greedy shard pool Go.Proofs.YtfhgkkcpkcjbmaaGreatDoor.look lock
def joinS (S:List (List PA×Int)):List PA:=srt (fun x:PA=>x.1) (S.flatMap fun q=>q.1)
theorem join_map (S:List Shd):(srt (fun x:Ac=>x.s) (allS S)).map acP=joinS (S.map shdP):=by
 rw [srt_map (fun x:Ac=>x.s) (fun x:PA=>x.1) acP (fun _=>rfl)]
 unfold joinS allS
 rw [List.map_flatMap,List.flatMap_map]
 rfl
theorem join_mem {S:List (List PA×Int)} {x:PA}:x∈joinS S↔∃(k:Nat) (q:List PA×Int),S[k]?=some q∧x∈q.1:=by
 unfold joinS
 rw [(srt_perm _ _).mem_iff,List.mem_flatMap]
 constructor
 ·rintro ⟨q,hq,hx⟩
  obtain ⟨k,hk⟩:=List.mem_iff_getElem?.1 hq
  exact ⟨k,q,hk,hx⟩
 ·rintro ⟨k,q,hk,hx⟩
  exact ⟨q,List.mem_of_getElem? hk,hx⟩
theorem join_ord {S:List (List PA×Int)} {sh per:Int} (h:∀(k:Nat) q,S[k]?=some q→shCheck q.2 q.1 k sh per=true):pool.Ord (joinS S):=by
 have hne:(joinS S).Pairwise (fun x y=>x.1≠y.1):=by
  refine ((srt_perm (fun x:PA=>x.1) (S.flatMap fun q=>q.1)).pairwise_iff (fun {a b} (h:a.1≠b.1)=>fun e:b.1=a.1=>h e.symm)).2 ?_
  rw [List.pairwise_flatMap]
  constructor
  ·intro q hq
   obtain ⟨k,hk⟩:=List.mem_iff_getElem?.1 hq
   exact (shCheck_iff.1 (h k q hk)).2.2.imp (fun h=>by omega)
  ·rw [List.pairwise_iff_getElem]
   intro i j hi hj hij x hx y hy e
   have h1:=((shCheck_iff.1 (h i _ (List.getElem?_eq_getElem hi))).2.1 x hx).2
   have h2:=((shCheck_iff.1 (h j _ (List.getElem?_eq_getElem hj))).2.1 y hy).2
   rw [e] at h1
   omega
 have hle:(joinS S).Pairwise (fun x y=>x.1≤y.1):=srt_sorted _ _
 unfold pool.Ord
 rw [List.pairwise_iff_getElem] at hne hle ⊢
 intro i j hi hj hij
 have h1:=hne i j hi hj hij
 have h2:=hle i j hi hj hij
 omega
theorem join_get {S:List (List PA×Int)} {sh per:Int} (h:∀(k:Nat) q,S[k]?=some q→shCheck q.2 q.1 k sh per=true) {s:Int} {κ:Nat} {q:List PA×Int} (hq:S[κ]?=some q) (hκ:fnv.shardV s sh=κ):getP (joinS S) s=getP q.1 s:=by
 rcases getP_or q.1 s with ⟨g1,g2⟩ | ⟨g1,g2⟩
 ·have:=getP_in (join_ord h) (join_mem.2 ⟨κ,q,hq,g1⟩)
  rw [g2] at this
  exact this
 ·rw [g1]
  refine getP_no fun x hx e=>?_
  obtain ⟨k,q',hk,hx⟩:=join_mem.1 hx
  have h1:=((shCheck_iff.1 (h k q' hk)).2.1 x hx).2
  rw [e,hκ] at h1
  obtain rfl:κ=k:=by omega
  rw [hq] at hk
  cases hk
  exact g2 x hx e
theorem join_set {S:List (List PA×Int)} {sh per:Int} (h:∀(k:Nat) q,S[k]?=some q→shCheck q.2 q.1 k sh per=true) {κ:Nat} {q:List PA×Int} (hq:S[κ]?=some q) (a:PA) (hκ:fnv.shardV a.1 sh=κ) (v:Int)
  (h2:∀(k:Nat) r,(S.set κ (setP q.1 a,v))[k]?=some r→shCheck r.2 r.1 k sh per=true):joinS (S.set κ (setP q.1 a,v))=setP (joinS S) a:=by
 have hlt:=(List.getElem?_eq_some_iff.1 hq).1
 have hqo:=(shCheck_iff.1 (h κ q hq)).2.2
 refine Go.Proofs.YtfhgkkcpkcjbmaaGreatDoor.look.ord_eq (join_ord h2) (pool.setP_rise a (join_ord h)) fun x=>?_
 rw [pool.setP_mem a (join_ord h),join_mem,join_mem]
 constructor
 ·rintro ⟨k,r,hk,hx⟩
  rw [List.getElem?_set] at hk
  by_cases e:κ=k
  ·subst e
   rw [if_pos rfl,if_pos hlt] at hk
   cases hk
   rcases (pool.setP_mem a hqo x).1 hx with ⟨h3,h4⟩ | h3
   ·exact .inl ⟨⟨κ,q,hq,h3⟩,h4⟩
   ·exact .inr h3
  ·rw [if_neg e] at hk
   refine .inl ⟨⟨k,r,hk,hx⟩,fun h5=>e ?_⟩
   have h1:=((shCheck_iff.1 (h k r hk)).2.1 x hx).2
   rw [h5,hκ] at h1
   omega
 ·rintro (⟨⟨k,r,hk,hx⟩,hne⟩ | h3)
  ·by_cases e:κ=k
   ·subst e
    rw [hq] at hk
    cases hk
    exact ⟨κ,_,List.getElem?_set_self hlt,(pool.setP_mem a hqo x).2 (.inl ⟨hx,hne⟩)⟩
   ·exact ⟨k,r,by rw [List.getElem?_set,if_neg e];exact hk,hx⟩
  ·exact ⟨κ,_,List.getElem?_set_self hlt,(pool.setP_mem a hqo x).2 (.inr h3)⟩
theorem join_pck {s:Sg} (hm:mayS s=true) (hs:slotsP (joinS s.S)≤s.C.hd):pckB s.C (joinS s.S)=true:=by
 refine pck_iff.2 ⟨(may_iff.1 hm).1,fun x hx=>?_,join_ord (fun k q=>may_shard hm),hs⟩
 obtain ⟨k,q,hk,hx⟩:=join_mem.1 hx
 exact ((shCheck_iff.1 (may_shard hm hk)).2.1 x hx).1
theorem slotsP_nn (P:List PA):0≤slotsP P:=by
 induction P with
 | nil=>exact Int.le_refl _
 | cons x P ih=>
  have e:slotsP (x::P)=slotsL x.2.2+slotsP P:=rfl
  have:=slotsL_pos x.2.2
  omega
theorem slots_get {P:List PA} (hp:pool.Ord P) (s:Int):slotsL (getP P s).2.2≤slotsP P:=by
 have h1:=slots_three P s
 rw [slots_of hp] at h1
 have h2:=slotsP_nn (P.filter fun x=>decide (x.1<s))
 have h3:=slotsP_nn (P.filter fun x=>decide (s<x.1))
 omega
section
variable {c : Cx}
theorem Cx.whoL (h:(whoL c.o).2=true):Go.Proofs.YtfhgkkcpkcjbmaaGreatDoor.look.whoL c.o=(c.σ,true):=Prod.ext rfl h
theorem Cx.get (hm:mayS c.s=true) (h:(Go.Proofs.YtfhgkkcpkcjbmaaGreatDoor.look.whoL c.o).2=true):getP (joinS c.s.S) c.σ=getP c.q.1 c.σ:=by
 have hb:=Cx.bd hm h
 refine join_get (fun k q=>may_shard hm) (Cx.hq hm h) ?_
 show c.κ=_
 omega
theorem Cx.joinS (hm:mayS c.s=true) (h:(Go.Proofs.YtfhgkkcpkcjbmaaGreatDoor.look.whoL c.o).2=true) (hc:c.L.ch=true):Go.Proofs.YtfhgkkcpkcjbmaaGreatDoor.task.joinS c.S=setP (Go.Proofs.YtfhgkkcpkcjbmaaGreatDoor.task.joinS c.s.S) (c.L.s,c.L.b,c.L.l):=by
 have hb:=Cx.bd hm h
 have m3:=(look_may (Cx.ck hm h) (ch_e hc) hc).2.2.1
 have e1:c.L.s=c.σ:=m3.trans (getP_s _ _)
 refine join_set (fun k q=>may_shard hm) (Cx.hq hm h) _ ?_ _ (Cx.Sck hm h hc)
 show fnv.shardV c.L.s c.s.C.sh=_
 rw [e1]
 show c.κ=_
 omega
theorem pool_end (hm:mayS c.s=true) (hk:0≤c.o.k∧c.o.k≤3) (hs:c.s.t=slotsP (joinS c.s.S)) (h:(whoL c.o).2=true) :
  (c.L.ch=false→doP c.s.C (joinS c.s.S) c.o=(joinS c.s.S,c.L.r,[]))∧(c.L.ch=true→c.e≠0→doP c.s.C (joinS c.s.S) c.o=(joinS c.s.S,fullL c.L,[]))∧
  (c.L.ch=true→c.e=0→doP c.s.C (joinS c.s.S) c.o=(joinS c.S,c.L.r,c.L.ev)∧c.t=slotsP (joinS c.S)):=by
 obtain ⟨m1,_,_,_,m5,m6⟩:=may_iff.1 hm
 have hcb:=cfg_bd m1
 have hpc:=join_pck hm (by omega)
 have hpo:=join_ord (S:=c.s.S) (fun k q=>may_shard hm)
 have hg:=Cx.get hm h
 obtain ⟨f1,f2⟩:=pool_look (L:=c.L) hpc hk (Cx.whoL h) (by rw [hg];rfl)
 refine ⟨fun hc=>?_,fun hc he=>?_,fun hc he=>?_⟩
 ·cases Int.decEq c.L.r.e 0 with
  | isTrue e=>
   obtain ⟨d0,v0⟩:=look_same e hc
   rw [f2 (fun q=>by have:=q.2;have d0:c.L.dl=0:=d0;omega),hc]
   rw [show c.L.ev=[] from v0]
   rfl
  | isFalse e=>
   rw [f2 (fun q=>e q.1),hc]
   obtain ⟨x,_,hx⟩:=look_err e
   rw [show c.L.ev=[] by unfold Cx.L;rw [hx];rfl]
   rfl
 all_goals
  have hr:=ch_e hc
  obtain ⟨n1,n2,n3,_⟩:=look_may (Cx.ck hm h) hr hc
  have n2:slotsL c.L.l=slotsL (getP c.q.1 c.σ).2.2+c.L.dl:=n2
  have e1:c.L.s=c.σ:=n3.trans (getP_s _ _)
  have b1:=slots_get hpo c.σ
  rw [hg] at b1
  have b2:=slotsL_pos c.L.l
  have hmb:pot.mayB c.s.t c.s.m=true:=(pot.may_iff _ _).2 ⟨by omega,by omega,by omega,by omega⟩
  have hee:c.e=if c.L.dl≤c.s.m - c.s.t then 0 else 6:=by
   unfold Cx.e pot.adjE
   rw [if_neg (fun k=>k ⟨hmb,by omega⟩)]
 ·have hgt:c.s.m - c.s.t<c.L.dl:=by
   rw [hee] at he
   split at he
   ·exact absurd rfl he
   ·omega
  rw [(f1 ⟨hr,by omega⟩).1]
  unfold fullL
  rw [if_pos ⟨hc,by omega⟩]
  rfl
 ·have hle:c.L.dl≤c.s.m - c.s.t:=by
   rw [hee] at he
   split at he
   ·assumption
   ·cases he
  have hj:=Cx.joinS hm h hc
  refine ⟨by rw [f2 (fun q=>by have:=q.2;omega),hc,if_pos rfl,hj],?_⟩
  rw [hj,slots_set hpo]
  show c.t=slotsP (joinS c.s.S) - slotsL (getP (joinS c.s.S) c.L.s).2.2+slotsL c.L.l
  rw [e1,hg]
  unfold Cx.t pot.adjT
  rw [if_pos ⟨hmb,by omega,hle⟩]
  omega
end
end Go.Proofs.YtfhgkkcpkcjbmaaGreatDoor.task
namespace Go.Proofs.YtfhgkkcpkcjbmaaGreatDoor.task
open Go.RowKit Sx txn queue greedy shard pool Go.Proofs.YtfhgkkcpkcjbmaaGreatDoor.look lock
theorem rcheck11 (v:Int) (L:List Ac) (a:Option Addr) (n c:Nat) (K:Int) (C:Cf) (w:World) (hM:Most w) (hA:Acs w a n c L) (h1000:n≤1000000) :
  Calls Tryz.prog 49 (List.toArray [shV a n c v,.int .i64 K,C.val]) w fun e w'=>e=.returned (.bool (shCheck v (L.map acP) K C.sh C.per))∧Below w.heap.size w w':=by
 have hs:=hA.1
 have hn:=hA.2.1
 have hn63:=hs.le
 have bad:shCheck v (L.map acP) K C.sh C.per=false→Ending.returned (tup [Value.bool false])=.returned (.bool (shCheck v (L.map acP) K C.sh C.per)):=fun h=>by rw [h];rfl
 refine calls_of_exec Sxt.env_ok.keeps.soon_ Tryz.func49 rfl [(7,(line [0,1,2,3,4,5,6,7,8,9,10,11,12,13,15,14,16,17,18,19,20,21,22,23,24,25,26,27,28,29,30,31,32,33],[]))] (schedQ_ok _ _ (by kernel_rfl)) (acsF a n L) hA.facts ?_
 conv=>arg 5;whnf
 refine wp_g0 (fun h1=>?_) (fun h1=>?_)
 rotate_left
 ·have h2:v<0:=of_decide_eq_true h1
  conv=>arg 5;whnf
  exact wp_back fun β ρ w' hM'=>⟨bad (by unfold shCheck;rw [decide_eq_false (by omega)];rfl),hM'.below⟩
 have hv0:0≤v:=by have h2:¬ v<0:=of_decide_eq_false h1;omega
 conv=>arg 5;whnf
 refine wp_br (fun h1=>?_) (fun h1=>?_)
 ·have h2:1099511627776<v:=of_decide_eq_true h1
  conv=>arg 5;whnf
  exact wp_back fun β ρ w' hM'=>⟨bad (by unfold shCheck;rw [decide_eq_false (show ¬ v≤1099511627776 by omega)];simp),hM'.below⟩
 have hv1:v≤1099511627776:=by have h2:¬ 1099511627776<v:=of_decide_eq_false h1;omega
 have hsh:shCheck v (L.map acP) K C.sh C.per=shOk (L.map acP) K C.sh C.per:=by unfold shCheck;rw [decide_eq_true hv0,decide_eq_true hv1];rfl
 rw [hsh] at bad ⊢
 clear h1 hsh
 conv=>arg 5;whnf
 refine loop_rule Sxt.env_ok.keeps.soon_ [(7,(line [0,1,2,3,4,5,6,7,8,9,10,11,12,13,15,14,16,17,18,19,20,21,22,23,24,25,26,27,28,29,30,31,32,33],[]))] (schedQ_ok _ _ (by kernel_rfl)) (fun k:Nat=>k≤n∧(List.range k).all (okI (L.map acP) K C.sh C.per)=true) (fun k=>(⟨[some ([.v (.slice a n c),.v (.int .i64 v)],109),some ([.v (.int .i64 C.sh),.v (.int .i64 C.so),.v (.int .i64 C.hd),.v (.int .i64 C.per),.v (.int .i64 C.bp),.v (.int .i64 C.fd),.v (.int .i64 C.wk),.v (.int .i64 C.rm)],23)],[],acsF a n L⟩,[.any,.v (.int .i64 K),.any,.p 0 0,.any,.p 1 0,.any,.v (.int .i64 k),.any,.any,.any,.any,.any,.any,.any,.any,.any,.any,.any,.any,.any,.any,.any,.any,.any,.any,.any,.any,.any,.any,.any,.any,.any,.any,.any,.any,.any,.any,.any,.any,.any,.any,.any,.any,.any,.any,.any,.any,.any,.any,.any,.any,.any,.any,.any,.any,.any,.any,.any,.any,.any,.any,.any])) (fun k=>n - k) 0 ⟨Nat.zero_le _,rfl⟩ ⟨by repeat' first | exact trivial | refine ⟨.inl rfl,?_⟩ | refine ⟨.inr rfl,?_⟩,⟨by repeat' first | exact trivial | refine ⟨.inl rfl,?_⟩ | refine ⟨.inr rfl,?_⟩,by repeat' first | exact trivial | refine ⟨.inl rfl,?_⟩ | refine ⟨.inr rfl,?_⟩,fun _ h=>h⟩,rfl⟩ ?_
 rintro k ⟨hk,hok⟩
 conv=>arg 5;whnf
 refine wp_br (fun h1=>?_) (fun h1=>?_)
 ·have hlt:k<n:=by have h3:=of_decide_eq_true (show decide ((k:Int)<(n:Int))=true from h1);omega
  obtain ⟨x,hx⟩:∃x,L[k]?=some x:=⟨_,List.getElem?_eq_getElem (by omega)⟩
  have hxm:x∈L:=List.mem_of_getElem? hx
  obtain ⟨⟨xs,xn,xl,xd⟩,_⟩:=hA.2.2.2 x hxm
  have hxP:(L.map acP)[k]?=some (acP x):=by rw [List.getElem?_map,hx];rfl
  have CK:=fun w hM hr=>rcheck_ x.s x.b C.per x.l x.a x.n x.c w hM xs xn hr
  have hb0:checkV x.s x.b C.per x.l=true→0≤x.b:=fun h=>(checkV_base h).2.2.1
  have EM:=fun w hb=>rempty x.s x.b x.a x.n x.c w hb
  rw [xn] at EM
  have SH:=fun w=>fnv.rshard_any x.s C.sh w
  have hall:∀b,okI (L.map acP) K C.sh C.per k=b→(List.range (k+1)).all (okI (L.map acP) K C.sh C.per)=b:=fun b hb=>by rw [List.range_succ,List.all_append,hok,Bool.true_and];simp [hb]
  obtain ⟨lt,hlt2,hlt0⟩:∃lt:Bool,okI (L.map acP) K C.sh C.per k=(lt&&(checkV x.s x.b C.per x.l && !emptyV x.b x.l.length&&(fnv.shardV x.s C.sh==K)))∧((k=0∧lt=true)∨∃j y,k=j+1∧L[j]?=some y∧lt=decide (y.s<x.s)):=by
   cases k with
   | zero=>exact ⟨true,by rw [okI_zero hxP,Bool.true_and];rfl,.inl ⟨rfl,rfl⟩⟩
   | succ j=>
    obtain ⟨y,hy⟩:∃y,L[j]?=some y:=⟨_,List.getElem?_eq_getElem (by omega)⟩
    have hyP:(L.map acP)[j]?=some (acP y):=by rw [List.getElem?_map,hy];rfl
    exact ⟨_,by rw [okI_succ hxP hyP,Bool.and_assoc,Bool.and_assoc,Bool.and_assoc];rfl,.inr ⟨j,y,rfl,hy,rfl⟩⟩
  rw [hlt2] at hall
  have hno:∀{b:Bool},(lt&&(checkV x.s x.b C.per x.l && !emptyV x.b x.l.length&&(fnv.shardV x.s C.sh==K)))=false→shOk (L.map acP) K C.sh C.per=false:=fun h=>shOk_false (i:=k) (hlt2.trans h)
  clear hlt2
  generalize checkV x.s x.b C.per x.l=ck at *
  generalize emptyV x.b x.l.length=em at *
  generalize fnv.shardV x.s C.sh=sv at *
  conv=>arg 5;whnf
  refine wp_must ⟨by omega,by show (k:Int)<(n:Int);omega,hs.some hlt⟩ ?_
  conv=>arg 5;whnf
  refine readG Sxt.env_ok.keeps.soon_ (vs:=x.cs) (sz:=3) (k:=k) rfl rfl (.head _) hlt (hs.some hlt) (cellsA_at hx) rfl ?_
  conv=>arg 5;whnf
  refine meetc (f:=91) (v:=.bool ck) rfl (by kernel_rfl) (fun β ρ w' hM'=>CK w' (hM.later hM'.below) (hM'.at_ (show rowF (pt x.a x.n) (cellsL x.l)∈acsF a n L from .tail _ (List.mem_map.2 ⟨x,hxm,rfl⟩)))) ?_
  cases ck with
  | false=>
   conv=>arg 5;whnf
   exact wp_back fun β ρ w' hM'=>⟨bad (hno (b:=true) (by simp)),hM'.below⟩
  | true=>
   conv=>arg 5;whnf
   refine meetc (f:=94) (v:=.bool em) rfl (by kernel_rfl) (fun β ρ w' hM'=>(by rw [xn];exact EM w' (hb0 rfl))) ?_
   cases em with
   | true=>
    conv=>arg 5;whnf
    exact wp_back fun β ρ w' hM'=>⟨bad (hno (b:=true) (by simp)),hM'.below⟩
   | false=>
    conv=>arg 5;whnf
    refine meetc (f:=95) (v:=.int .i64 sv) rfl (by kernel_rfl) (fun β ρ w' hM'=>SH w') ?_
    conv=>arg 5;whnf
    refine wp_g0 (fun h9=>?_) (fun h9=>?_)
    rotate_left
    ·have h8:(sv==K)=false:=by have:(!(sv==K))=true:=h9;simpa using this
     rw [h8] at hno
     conv=>arg 5;whnf
     exact wp_back fun β ρ w' hM'=>⟨bad (hno (b:=true) (by simp)),hM'.below⟩
    have h8:(sv==K)=true:=by have:(!(sv==K))=false:=h9;simpa using this
    rw [h8] at hall hno
    rcases hlt0 with ⟨rfl,rfl⟩ | ⟨j,y,rfl,hy,rfl⟩
    ·skip
     conv=>arg 5;whnf
     refine wp_must ⟨by show -9223372036854775808≤((0:Nat):Int)+1;omega,by show ((0:Nat):Int)+1≤9223372036854775807;omega⟩ ?_
     conv=>arg 5;whnf
     refine wp_end ⟨0+1,⟨hlt,hall true (by simp [*])⟩,⟨by repeat' first | exact trivial | refine ⟨.inl rfl,?_⟩ | refine ⟨.inr rfl,?_⟩,⟨by repeat' first | exact trivial | refine ⟨.inl rfl,?_⟩ | refine ⟨.inr rfl,?_⟩,by repeat' first | exact trivial | refine ⟨.inl rfl,?_⟩ | refine ⟨.inr rfl,?_⟩,fun _ h=>h⟩,rfl⟩,by show n - (0+1)<n - (0);omega⟩
    ·skip
     conv=>arg 5;whnf
     refine wp_g1 (fun _=>?_) (fun h=>absurd (of_decide_eq_false h) (by simp))
     conv=>arg 5;whnf
     refine wp_must ⟨by show -9223372036854775808≤((j+1:Nat):Int) - 1;omega,by show ((j+1:Nat):Int) - 1≤9223372036854775807;omega⟩ ?_
     conv=>arg 5;whnf
     refine wp_must ⟨by show 0≤((j+1:Nat):Int) - 1;omega,by show ((j+1:Nat):Int) - 1<(n:Int);omega,hs.some (show j<n by omega)⟩ ?_
     conv=>arg 5;whnf
     refine readF (sz:=3) (k:=j) (f:=0) (.int .i64 y.s) rfl (.head _) (show j<n by omega) (hs.some (show j<n by omega)) (cellsA_at hy 0 _ rfl) (by rw [show (((j+1:Nat):Int) - 1).toNat=j by omega]) ?_
     conv=>arg 5;whnf
     refine wp_br (fun h3=>?_) (fun h3=>?_)
     ·have h4:x.s≤y.s:=of_decide_eq_true h3
      rw [decide_eq_false (show ¬ y.s<x.s by omega)] at hno
      conv=>arg 5;whnf
      exact wp_back fun β ρ w' hM'=>⟨bad (hno (b:=true) (by simp)),hM'.below⟩
     ·have h4:¬ x.s≤y.s:=of_decide_eq_false h3
      rw [decide_eq_true (show y.s<x.s by omega)] at hall
      conv=>arg 5;whnf
      refine wp_must ⟨by show -9223372036854775808≤((j+1:Nat):Int)+1;omega,by show ((j+1:Nat):Int)+1≤9223372036854775807;omega⟩ ?_
      conv=>arg 5;whnf
      refine wp_end ⟨j+1+1,⟨hlt,hall true (by simp [*])⟩,⟨by repeat' first | exact trivial | refine ⟨.inl rfl,?_⟩ | refine ⟨.inr rfl,?_⟩,⟨by repeat' first | exact trivial | refine ⟨.inl rfl,?_⟩ | refine ⟨.inr rfl,?_⟩,by repeat' first | exact trivial | refine ⟨.inl rfl,?_⟩ | refine ⟨.inr rfl,?_⟩,fun _ h=>h⟩,rfl⟩,by show n - (j+1+1)<n - (j+1);omega⟩
 ·have hkn:k=n:=by have h3:=of_decide_eq_false (show decide ((k:Int)<(n:Int))=false from h1);omega
  have e:shOk (L.map acP) K C.sh C.per=true:=by unfold shOk;rw [List.length_map,← hn,← hkn];exact hok
  rw [e]
  conv=>arg 5;whnf
  exact wp_back fun β ρ w' hM'=>⟨rfl,hM'.below⟩
end Go.Proofs.YtfhgkkcpkcjbmaaGreatDoor.task
namespace Go.Proofs.YtfhgkkcpkcjbmaaGreatDoor.task
open Go.RowKit Sx txn queue greedy shard pool Go.Proofs.YtfhgkkcpkcjbmaaGreatDoor.look lock
def SgIn (w:World) (x:Sn) (s:Sg):Prop:=(Sl x.la s.l.length x.lc∧At w (pt x.la s.l.length) (ic s.l))∧ShsIn w x.sa x.S.length x.sc x.S∧x.S.map shdP=s.S
theorem SgIn.facts {w:World} {x:Sn} {s:Sg} (h:SgIn w x s):∀φ∈sgF x s,∀g,φ.g=some g→∃o,w.heap[g]?=some o∧φ.holds o:=fun φ hφ=>(List.mem_cons.1 hφ).elim (fun e=>by subst e;exact h.1.2) (fun h2=>h.2.1.facts φ h2)
theorem SgIn.mem {W:World} {G:Option Nat} {m:M} {β ρ} {w w0:World} {x:Sn} {s:Sg} (h:SgIn w0 x s) (hM:Mem W G m β ρ w) (hm:∀φ∈sgF x s,φ∈m.facts):SgIn w x s:=
 ⟨⟨h.1.1,hM.at_ (hm _ (.head _))⟩,h.2.1.mem hM fun φ hφ=>hm φ (.tail _ hφ),h.2.2⟩
def smallB (x:Sn) (s:Sg):Bool:=(x.S.all fun q=>fewA q.L&&decide ((q.n:Int)≤20))&&(decide ((x.S.length:Int)≤10)&&decide ((s.l.length:Int)≤10))
theorem all_drop {α:Type} {p:α→Bool} {l:List α} {k:Nat} {x:α} (h:l[k]?=some x):(l.drop k).all p=(p x&&(l.drop (k+1)).all p):=by
 obtain ⟨h1,h2⟩:=List.getElem?_eq_some_iff.1 h
 rw [List.drop_eq_getElem_cons h1,h2,List.all_cons]
theorem SgIn.small {w:World} {x:Sn} {s:Sg} (h:SgIn w x s) (hb:smallB x s=true):Sgo x s∧s.l.length≤10∧s.S.length≤10∧(∀q∈x.S,q.n≤20)∧(∀q∈x.S,∀z∈q.L,z.l.length≤20):=by
 unfold smallB at hb
 simp only [Bool.and_eq_true,List.all_eq_true,decide_eq_true_eq] at hb
 obtain ⟨h1,h2,h3⟩:=hb
 refine ⟨⟨h.1.1,h.2.1.1,fun q hq=>?_,h.2.2⟩,by omega,by rw [← h.2.2,List.length_map];omega,fun q hq=>by have:=(h1 q hq).2;omega,fun q hq=>(((h.2.1.2.2.2 q hq).1).few (h1 q hq).1).2⟩
 obtain ⟨f1,f2⟩:=((h.2.1.2.2.2 q hq).1).few (h1 q hq).1
 exact ⟨f1.1,f1.2.1,fun z hz=>(f1.2.2.2 z hz).1⟩
theorem small (s:Sg) (x:Sn) (w:World) (hI:SgIn w x s) :
  Calls Tryz.prog 13 (List.toArray [sgV s x]) w fun e w'=>e=.returned (.bool (smallB x s))∧Below w.heap.size w w':=by
 have hs:=hI.2.1.1
 have hl:=hI.1.1
 have hn63:=hs.le
 have hm63:=hl.le
 refine calls_of_exec Sxt.env_ok.keeps.soon_ Tryz.func13 rfl [] (schedQ_ok _ _ (by kernel_rfl)) (sgF x s) hI.facts ?_
 conv=>arg 5;whnf
 refine loop_rule Sxt.env_ok.keeps.soon_ [] (schedQ_ok _ _ (by kernel_rfl)) (fun k:Nat=>k≤x.S.length∧smallB x s=(((x.S.drop k).all fun q=>fewA q.L&&decide ((q.n:Int)≤20))&&(decide ((x.S.length:Int)≤10)&&decide ((s.l.length:Int)≤10)))) (fun k=>(⟨[some ([.v (.int .i64 s.C.sh),.v (.int .i64 s.C.so),.v (.int .i64 s.C.hd),.v (.int .i64 s.C.per),.v (.int .i64 s.C.bp),.v (.int .i64 s.C.fd),.v (.int .i64 s.C.wk),.v (.int .i64 s.C.rm),.v (.slice x.la s.l.length x.lc),.v (.int .i64 s.t),.v (.int .i64 s.m),.v (.slice x.sa x.S.length x.sc)],29)],[],sgF x s⟩,[.any,.p 0 0,.any,.v (.int .i64 k),.any,.any,.any,.any,.any,.any,.any,.any,.any,.any,.any,.any,.any,.any,.any,.any,.any,.any,.any,.any,.any,.any,.any,.any,.any])) (fun k=>x.S.length - k) 0 ⟨Nat.zero_le _,rfl⟩ ⟨by repeat' first | exact trivial | refine ⟨.inl rfl,?_⟩ | refine ⟨.inr rfl,?_⟩,⟨by repeat' first | exact trivial | refine ⟨.inl rfl,?_⟩ | refine ⟨.inr rfl,?_⟩,by repeat' first | exact trivial | refine ⟨.inl rfl,?_⟩ | refine ⟨.inr rfl,?_⟩,fun _ h=>h⟩,rfl⟩ ?_
 rintro k ⟨hk,he⟩
 conv=>arg 5;whnf
 refine wp_br (fun h1=>?_) (fun h1=>?_)
 ·have hlt:k<x.S.length:=by have h3:=of_decide_eq_true (show decide ((k:Int)<(x.S.length:Int))=true from h1);omega
  obtain ⟨q,hq⟩:∃q,x.S[k]?=some q:=⟨_,List.getElem?_eq_getElem (by omega)⟩
  have hqm:=List.mem_of_getElem? hq
  rw [all_drop hq] at he
  have FW:=fun w' (hM':AccsIn w' q.a q.n q.c q.L)=>fewW q.L 20 q.a q.n q.c w' hM'
  generalize (fewA q.L&&decide ((q.n:Int)≤20))=fb at *
  conv=>arg 5;whnf
  refine wp_must ⟨by omega,by show (k:Int)<(x.S.length:Int);omega,hs.some hlt⟩ ?_
  conv=>arg 5;whnf
  refine readF (sz:=2) (k:=k) (f:=0) (.slice q.a q.n q.c) rfl (.tail _ (.head _)) hlt (hs.some hlt) (cellsS_at hq 0 _ rfl) rfl ?_
  conv=>arg 5;whnf
  refine meetc (f:=47) (v:=.bool fb) rfl (by kernel_rfl) (fun β ρ w' hM'=>FW w' ((hI.mem hM' fun φ hφ=>hφ).2.1.2.2.2 q hqm).1) ?_
  cases fb with
  | false=>
   rw [he]
   conv=>arg 5;whnf
   exact wp_back fun β ρ w' hM'=>⟨rfl,hM'.below⟩
  | true=>
   conv=>arg 5;whnf
   refine wp_must ⟨by show -9223372036854775808≤(k:Int)+1;omega,by show (k:Int)+1≤9223372036854775807;omega⟩ ?_
   conv=>arg 5;whnf
   refine wp_end ⟨k+1,⟨hlt,by rw [he,Bool.true_and]⟩,⟨by repeat' first | exact trivial | refine ⟨.inl rfl,?_⟩ | refine ⟨.inr rfl,?_⟩,⟨by repeat' first | exact trivial | refine ⟨.inl rfl,?_⟩ | refine ⟨.inr rfl,?_⟩,by repeat' first | exact trivial | refine ⟨.inl rfl,?_⟩ | refine ⟨.inr rfl,?_⟩,fun _ h=>h⟩,rfl⟩,by show x.S.length - (k+1)<x.S.length - k;omega⟩
 ·have hkn:k=x.S.length:=by have h3:=of_decide_eq_false (show decide ((k:Int)<(x.S.length:Int))=false from h1);omega
  rw [List.drop_of_length_le (by omega)] at he
  rw [he]
  conv=>arg 5;whnf
  refine wp_g1 (fun h2=>?_) (fun h2=>?_)
  ·have h3:decide ((x.S.length:Int)≤10)=true:=h2
   rw [h3]
   conv=>arg 5;whnf
   exact wp_back fun β ρ w' hM'=>⟨rfl,hM'.below⟩
  ·have h3:decide ((x.S.length:Int)≤10)=false:=h2
   rw [h3]
   conv=>arg 5;whnf
   exact wp_back fun β ρ w' hM'=>⟨rfl,hM'.below⟩
theorem rmay (s:Sg) (x:Sn) (w:World) (hM:Most w) (hS:Sgs w x s) (hq:∀q∈x.S,q.n≤1000000):Calls Tryz.prog 14 (List.toArray [sgV s x]) w fun e w'=>e=.returned (.bool (mayS s))∧Below w.heap.size w w':=by
 obtain ⟨⟨hl,hlr⟩,⟨hs,hsn,hsr,hsA⟩,hSm⟩:=hS
 have hSl:s.S.length=x.S.length:=by rw [← hSm,List.length_map]
 have CF:=fun w=>rconfig s.C w
 have hle:=hl.le
 have hse:=hs.le
 refine calls_of_exec Sxt.env_ok.keeps.soon_ Tryz.func14 rfl [(7,(line [0,1,2,3,4,5,6,7,8,9,10,11,12,13,14,15,16],[]))] (schedQ_ok _ _ (by kernel_rfl)) (sgF x s) (fun φ hφ g hg=>(List.mem_cons.1 hφ).elim (fun e=>by subst e;exact hlr g hg) (fun h=>Shs.facts ⟨hs,hsn,hsr,hsA⟩ φ h g hg)) ?_
 cases hcf:cfgB s.C with
 | false=>
  rw [hcf] at CF
  have e:mayS s=false:=by unfold mayS;rw [hcf];rfl
  rw [e]
  conv=>arg 5;whnf
  refine meetc (f:=48) (v:=.bool false) rfl (by kernel_rfl) (fun β ρ w' hM'=>CF w') ?_
  conv=>arg 5;whnf
  exact wp_back fun β ρ w' hM'=>⟨rfl,hM'.below⟩
 | true=>
  rw [hcf] at CF
  have hmay:mayS s=(decide ((s.l.length:Int)=s.C.sh)&&decide ((x.S.length:Int)=s.C.sh)&&allB s x.S.length&&decide (s.m=s.C.hd∧0≤s.t∧s.t≤s.C.hd)):=by unfold mayS;rw [hcf,hSl];rfl
  rw [hmay]
  clear hmay
  conv=>arg 5;whnf
  refine meetc (f:=48) (v:=.bool true) rfl (by kernel_rfl) (fun β ρ w' hM'=>CF w') ?_
  conv=>arg 5;whnf
  refine wp_g0 (fun h0=>?_) (fun h0=>?_)
  rotate_left
  ·have k0:¬ (s.l.length:Int)=s.C.sh:=by have:(!((s.l.length:Int)==s.C.sh))=true:=h0;simpa using this
   rw [decide_eq_false k0];simp only [Bool.false_and,Bool.and_false]
   conv=>arg 5;whnf
   exact wp_back fun β ρ w' hM'=>⟨rfl,hM'.below⟩
  have k0:(s.l.length:Int)=s.C.sh:=by have:(!((s.l.length:Int)==s.C.sh))=false:=h0;simpa using this
  conv=>arg 5;whnf
  refine wp_g0 (fun h1=>?_) (fun h1=>?_)
  rotate_left
  ·have k1:¬ (x.S.length:Int)=s.C.sh:=by have:(!((x.S.length:Int)==s.C.sh))=true:=h1;simpa using this
   rw [decide_eq_false k1];simp only [Bool.false_and,Bool.and_false]
   conv=>arg 5;whnf
   exact wp_back fun β ρ w' hM'=>⟨rfl,hM'.below⟩
  have k1:(x.S.length:Int)=s.C.sh:=by have:(!((x.S.length:Int)==s.C.sh))=false:=h1;simpa using this
  conv=>arg 5;whnf
  refine wp_g0 (fun h2=>?_) (fun h2=>?_)
  rotate_left
  ·have k2:¬ s.m=s.C.hd:=by have:(!(s.m==s.C.hd))=true:=h2;simpa using this
   rw [decide_eq_false (fun h:s.m=s.C.hd∧0≤s.t∧s.t≤s.C.hd=>k2 h.1),Bool.and_false]
   conv=>arg 5;whnf
   exact wp_back fun β ρ w' hM'=>⟨rfl,hM'.below⟩
  have k2:s.m=s.C.hd:=by have:(!(s.m==s.C.hd))=false:=h2;simpa using this
  conv=>arg 5;whnf
  refine wp_g0 (fun h3=>?_) (fun h3=>?_)
  rotate_left
  ·have k3:s.t<0:=of_decide_eq_true h3
   rw [decide_eq_false (fun h:s.m=s.C.hd∧0≤s.t∧s.t≤s.C.hd=>by omega),Bool.and_false]
   conv=>arg 5;whnf
   exact wp_back fun β ρ w' hM'=>⟨rfl,hM'.below⟩
  have k3:¬ s.t<0:=of_decide_eq_false h3
  conv=>arg 5;whnf
  refine wp_br (fun h4=>?_) (fun h4=>?_)
  ·have k4:s.C.hd<s.t:=of_decide_eq_true h4
   rw [decide_eq_false (fun h:s.m=s.C.hd∧0≤s.t∧s.t≤s.C.hd=>by omega),Bool.and_false]
   conv=>arg 5;whnf
   exact wp_back fun β ρ w' hM'=>⟨rfl,hM'.below⟩
  have k4:¬ s.C.hd<s.t:=of_decide_eq_false h4
  rw [decide_eq_true k0,decide_eq_true k1,decide_eq_true (show s.m=s.C.hd∧0≤s.t∧s.t≤s.C.hd from ⟨k2,by omega,by omega⟩),Bool.and_true,Bool.true_and,Bool.true_and]
  have hc8:s.C.sh≤8:=by unfold cfgB at hcf;have:=of_decide_eq_true hcf;omega
  conv=>arg 5;whnf
  refine loop_rule Sxt.env_ok.keeps.soon_ [(7,(line [0,1,2,3,4,5,6,7,8,9,10,11,12,13,14,15,16],[]))] (schedQ_ok _ _ (by kernel_rfl)) (fun k:Nat=>k≤x.S.length∧allB s k=true) (fun k=>(⟨[some ([.v (.int .i64 s.C.sh),.v (.int .i64 s.C.so),.v (.int .i64 s.C.hd),.v (.int .i64 s.C.per),.v (.int .i64 s.C.bp),.v (.int .i64 s.C.fd),.v (.int .i64 s.C.wk),.v (.int .i64 s.C.rm),.v (.slice x.la s.l.length x.lc),.v (.int .i64 s.t),.v (.int .i64 s.m),.v (.slice x.sa x.S.length x.sc)],29),some ([.v (.int .i64 s.C.sh),.v (.int .i64 s.C.so),.v (.int .i64 s.C.hd),.v (.int .i64 s.C.per),.v (.int .i64 s.C.bp),.v (.int .i64 s.C.fd),.v (.int .i64 s.C.wk),.v (.int .i64 s.C.rm)],23)],[],sgF x s⟩,[.any,.p 0 0,.any,.p 1 0,.v (.int .i64 k),.any,.any,.any,.any,.any,.any,.any,.any,.any,.any,.any,.any,.any,.any,.any,.any,.any,.any,.any,.any,.any,.any,.any,.any,.any,.any,.any,.any,.any,.any,.any,.any,.any,.any,.any,.any,.any,.any,.any,.any,.any,.any,.any,.any,.any,.any,.any,.any,.any,.any,.any,.any,.any,.any,.any,.any,.any,.any,.any,.any,.any,.any,.any,.any,.any,.any])) (fun k=>x.S.length - k) 0 ⟨Nat.zero_le _,rfl⟩ ⟨by repeat' first | exact trivial | refine ⟨.inl rfl,?_⟩ | refine ⟨.inr rfl,?_⟩,⟨by repeat' first | exact trivial | refine ⟨.inl rfl,?_⟩ | refine ⟨.inr rfl,?_⟩,by repeat' first | exact trivial | refine ⟨.inl rfl,?_⟩ | refine ⟨.inr rfl,?_⟩,fun _ h=>h⟩,rfl⟩ ?_
  rintro k ⟨hk,hall⟩
  conv=>arg 5;whnf
  refine wp_br (fun h5=>?_) (fun h5=>?_)
  ·have hlt:k<x.S.length:=by have h6:(k:Int)<s.C.sh:=of_decide_eq_true h5;omega
   obtain ⟨z,hz⟩:∃z,s.l[k]?=some z:=⟨_,List.getElem?_eq_getElem (by omega)⟩
   obtain ⟨q,hq1⟩:∃q,x.S[k]?=some q:=⟨_,List.getElem?_eq_getElem (by omega)⟩
   have hqm:=List.mem_of_getElem? hq1
   have hok:okK s k=(!decide (z<0)&&shCheck q.v (q.L.map acP) k s.C.sh s.C.per):=by unfold okK;rw [hz,← hSm,List.getElem?_map,hq1];rfl
   have CK:=fun w hM hA=>rcheck11 q.v q.L q.a q.n q.c k s.C w hM hA (hq q hqm)
   generalize shCheck q.v (q.L.map acP) k s.C.sh s.C.per=ck at *
   conv=>arg 5;whnf
   refine wp_must ⟨by omega,by show (k:Int)<(s.l.length:Int);omega,hl.some (show k<s.l.length by omega)⟩ ?_
   conv=>arg 5;whnf
   refine readF (sz:=1) (k:=k) (f:=0) (.int .i64 z) rfl (.head _) (show k<s.l.length by omega) (hl.some (show k<s.l.length by omega)) (by rw [show k*1+0=k by omega];exact ic_get hz) rfl ?_
   conv=>arg 5;whnf
   refine wp_g0 (fun h6=>?_) (fun h6=>?_)
   rotate_left
   ·rw [h6] at hok
    rw [allB_lt (n:=x.S.length) (k:=k) (by rw [hok];rfl) hlt]
    conv=>arg 5;whnf
    exact wp_back fun β ρ w' hM'=>⟨rfl,hM'.below⟩
   rw [h6] at hok
   conv=>arg 5;whnf
   refine wp_must ⟨by omega,by show (k:Int)<(x.S.length:Int);omega,hs.some hlt⟩ ?_
   conv=>arg 5;whnf
   refine readG Sxt.env_ok (vs:=q.cs) (sz:=2) (k:=k) rfl rfl (.tail _ (.head _)) hlt (hs.some hlt) (cellsS_at hq1) rfl ?_
   conv=>arg 5;whnf
   refine meetc (f:=49) (v:=.bool ck) rfl (by kernel_rfl) (fun β ρ w' hM'=>CK w' (hM.later hM'.below) (Mem.acs (hsA q hqm) hM' fun φ hφ=>(show φ∈sgF x s from .tail _ (.tail _ (List.mem_flatMap.2 ⟨q,hqm,hφ⟩))))) ?_
   cases ck with
   | false=>
    rw [allB_lt (n:=x.S.length) (k:=k) (by rw [hok];rfl) hlt]
    conv=>arg 5;whnf
    exact wp_back fun β ρ w' hM'=>⟨rfl,hM'.below⟩
   | true=>
    conv=>arg 5;whnf
    refine wp_must ⟨by show -9223372036854775808≤(k:Int)+1;omega,by show (k:Int)+1≤9223372036854775807;omega⟩ ?_
    conv=>arg 5;whnf
    refine wp_end ⟨k+1,⟨hlt,by rw [allB_succ,hall,hok];rfl⟩,⟨by repeat' first | exact trivial | refine ⟨.inl rfl,?_⟩ | refine ⟨.inr rfl,?_⟩,⟨by repeat' first | exact trivial | refine ⟨.inl rfl,?_⟩ | refine ⟨.inr rfl,?_⟩,by repeat' first | exact trivial | refine ⟨.inl rfl,?_⟩ | refine ⟨.inr rfl,?_⟩,fun _ h=>h⟩,rfl⟩,by show x.S.length - (k+1)<x.S.length - k;omega⟩
  ·have hkn:k=x.S.length:=by have h6:¬ (k:Int)<s.C.sh:=of_decide_eq_false h5;omega
   rw [← hkn,hall]
   conv=>arg 5;whnf
   exact wp_back fun β ρ w' hM'=>⟨rfl,hM'.below⟩
end Go.Proofs.YtfhgkkcpkcjbmaaGreatDoor.task
namespace Go.Proofs.YtfhgkkcpkcjbmaaGreatDoor.task
open Go.RowKit Sx txn queue greedy shard pool Go.Proofs.YtfhgkkcpkcjbmaaGreatDoor.look lock
theorem ownS (s:Sg) (x:Sn) (w:World) (hl:Sl x.la s.l.length x.lc) (hs:Sl x.sa x.S.length x.sc) (hrow:At w (pt x.sa x.S.length) (cellsS x.S)) (hS1:x.S.length≤1000000) :
  Calls Tryz.prog 20 (List.toArray [sgV s x]) w fun e w'=>∃i:One,Sl i.1 x.S.length i.2∧Gives w w' e (sgV s ⟨x.la,x.lc,i.1,i.2,x.S⟩) [rowF (pt i.1 x.S.length) (cellsS x.S)]:=by
 have OW:=fun w hr=>shard.own x.S x.sa x.S.length x.sc w hs rfl hr hS1
 refine calls_of_exec Sxt.env_ok.keeps.soon_ Tryz.func20 rfl [(1,(line [0,1,2,3,4,5,6,7,8,9,10],[1]))] (schedQ_ok _ _ (by kernel_rfl)) [rowF (pt x.sa x.S.length) (cellsS x.S)] (at1 hrow) ?_
 conv=>arg 5;whnf
 refine meet1F (f:=61) (n:=x.S.length) (v:=fun a1 c1=>.slice a1 x.S.length c1) (xs:=cellsS x.S) rfl (by kernel_rfl) (fun β ρ w' hM'=>OW w' (hM'.at_ (.head _))) (fun u c_u h_u f_u=>?_)
 conv=>arg 5;whnf
 refine wp_back fun β ρ w' hM'=>⟨(u,c_u),h_u,rfl,hM'.below,fun φ hφ=>?_⟩
 simp only [List.mem_singleton] at hφ
 subst hφ
 exact fun g hg=>⟨f_u g hg,(hM'.fact _ (.head _) g hg).2⟩
theorem cellsS_take {S:List Shd} {k:Nat} {q:Shd} (h:S[k]?=some q):cellsS (S.take (k+1))=cellsS (S.take k)++q.cs:=by rw [List.take_add_one,h,cellsS_app2];simp [cellsS]
theorem toldS (s:Sg) (x:Sn) (w:World) (hl:Sl x.la s.l.length x.lc) (hs:Sl x.sa x.S.length x.sc) (hrow:At w (pt x.sa x.S.length) (cellsS x.S)) (hS1:x.S.length≤1000000) :
  Calls Tryz.prog 21 (List.toArray [sgV s x]) w fun e w'=>∃i:One,Sl i.1 x.S.length i.2∧Gives w w' e (sgV s ⟨x.la,x.lc,i.1,i.2,x.S⟩) [rowF (pt i.1 x.S.length) (cellsS x.S)]:=by
 have hn63:=hs.le
 refine calls_of_exec Sxt.env_ok.keeps Tryz.func21 rfl [(5,(lineT [0,1,2,3,4,5,6,7] [8,9,10],[]))] (schedQ_ok _ _ (by kernel_rfl)) [rowF (pt x.sa x.S.length) (cellsS x.S)] (at1 hrow) ?_
 conv=>arg 5;whnf
 refine loop_nilC 2 11 109 2 _ _ rfl rfl ?_
 refine loop_ruleE Sxt.env_ok.keeps [(5,(lineT [0,1,2,3,4,5,6,7] [8,9,10],[]))] (schedQ_ok _ _ (by kernel_rfl)) [3] (fun k:Nat=>k≤x.S.length) (fun k=>(⟨[some ([.v (.int .i64 s.C.sh),.v (.int .i64 s.C.so),.v (.int .i64 s.C.hd),.v (.int .i64 s.C.per),.v (.int .i64 s.C.bp),.v (.int .i64 s.C.fd),.v (.int .i64 s.C.wk),.v (.int .i64 s.C.rm),.v (.slice x.la s.l.length x.lc),.v (.int .i64 s.t),.v (.int .i64 s.m),.v (.slice x.sa x.S.length x.sc)],56),some ([.v (.int .i64 0),.v (.int .i64 0),.v (.int .i64 0),.v (.int .i64 0),.v (.int .i64 0),.v (.int .i64 0),.v (.int .i64 0),.v (.int .i64 0),.v (.slice none 0 0),.v (.int .i64 0),.v (.int .i64 0),.v (.slice none 0 0)],29),some ([.v (.int .i64 s.C.sh),.v (.int .i64 s.C.so),.v (.int .i64 s.C.hd),.v (.int .i64 s.C.per),.v (.int .i64 s.C.bp),.v (.int .i64 s.C.fd),.v (.int .i64 s.C.wk),.v (.int .i64 s.C.rm),.v (.slice x.la s.l.length x.lc),.v (.int .i64 s.t),.v (.int .i64 s.m),.r 0],29)],[some ⟨109,2,k,cellsS (x.S.take k)⟩],[rowF (pt x.sa x.S.length) (cellsS x.S)]⟩,[.any,.p 0 0,.p 1 0,.p 2 0,.v (.int .i64 k),.any,.any,.any,.any,.any,.any,.any,.any,.any,.any,.any,.any,.any,.any,.any,.any,.any,.any,.any,.any,.any,.any,.any,.any,.any])) (fun k=>x.S.length - k) 0 (Nat.zero_le _) ⟨by repeat' first | exact trivial | refine ⟨.inl rfl,?_⟩ | refine ⟨.inr rfl,?_⟩,⟨by repeat' first | exact trivial | refine ⟨.inl rfl,?_⟩ | refine ⟨.inr rfl,?_⟩,by repeat' first | exact trivial | refine ⟨.inl rfl,?_⟩ | refine ⟨.inr rfl,?_⟩,fun _ h=>h⟩,rfl⟩ ?_
 intro k hk
 conv=>arg 5;whnf
 refine wp_br (fun h1=>?_) (fun h1=>?_)
 ·have hlt:k<x.S.length:=by have h3:=of_decide_eq_true (show decide ((k:Int)<(x.S.length:Int))=true from h1);omega
  obtain ⟨q,hq⟩:∃q,x.S[k]?=some q:=⟨_,List.getElem?_eq_getElem (by omega)⟩
  have ec:=cellsS_take hq
  conv=>arg 5;whnf
  refine wp_must ⟨by omega,by show (k:Int)<(x.S.length:Int);omega,hs.some hlt⟩ ?_
  conv=>arg 5;whnf
  refine readG Sxt.env_ok.keeps (vs:=q.cs) (sz:=2) (k:=k) rfl rfl (.head _) hlt (hs.some hlt) (cellsS_at hq) rfl ?_
  conv=>arg 5;whnf
  refine wp_must ⟨by show k+1≤maxLen;unfold maxLen;omega,by show (k+1)*32≤140737488355328;omega⟩ ?_
  conv=>arg 5;whnf
  refine wp_must ⟨by show -9223372036854775808≤(k:Int)+1;omega,by show (k:Int)+1≤9223372036854775807;omega⟩ ?_
  conv=>arg 5;whnf
  refine wp_end ⟨k+1,hlt,⟨by repeat' first | exact trivial | refine ⟨.inl rfl,?_⟩ | refine ⟨.inr rfl,?_⟩,⟨by repeat' first | exact trivial | refine ⟨.inl rfl,?_⟩ | refine ⟨.inr rfl,?_⟩,by rw [ec];repeat' first | exact trivial | refine ⟨.inl rfl,?_⟩ | refine ⟨.inr rfl,?_⟩,fun _ h=>h⟩,rfl⟩,by show x.S.length - (k+1)<x.S.length - k;omega⟩
 ·have hkn:k=x.S.length:=by have h3:=of_decide_eq_false (show decide ((k:Int)<(x.S.length:Int))=false from h1);omega
  have e:x.S.take k=x.S:=List.take_of_length_le (by omega)
  rw [e,hkn]
  conv=>arg 5;whnf
  refine wp_share fun u c_u h_u f_u=>?_
  conv=>arg 5;whnf
  refine wp_back fun β ρ w' hM'=>⟨(u,c_u),h_u,rfl,hM'.below,fun φ hφ=>?_⟩
  simp only [List.mem_singleton] at hφ
  subst hφ
  exact giveF _ hM' (.head _) f_u
end Go.Proofs.YtfhgkkcpkcjbmaaGreatDoor.task
namespace Go.Proofs.YtfhgkkcpkcjbmaaGreatDoor.task
open Go.RowKit Sx txn queue greedy shard pool Go.Proofs.YtfhgkkcpkcjbmaaGreatDoor.look lock
def openS (C:Cf):Sg:=⟨C,lock.newV C.sh,0,pot.newM C.hd,List.replicate C.sh.toNat ([],0)⟩
def shd0:Shd:=⟨none,0,0,[],0⟩
theorem reps_shd:∀(k:Nat),reps k [Value.slice none 0 0,.int .i64 0]=cellsS (List.replicate k shd0)
 | 0=>rfl
 | k+1=>by
  rw [List.replicate_succ]
  show [Value.slice none 0 0,.int .i64 0]++reps k [Value.slice none 0 0,.int .i64 0]=shd0.cs++cellsS (List.replicate k shd0)
  rw [reps_shd k]
  rfl
theorem open_ (C:Cf) (w:World) (hC:cfgB C=true) :
  Calls Tryz.prog 50 (List.toArray [C.val]) w fun e w'=>∃x:Sn,Sgo x (openS C)∧Lay w w' [] e (.tuple #[sgV (openS C) x,.int .i64 0]) (sgF x (openS C)):=by
 have CF:=fun w=>config C w
 have LN:=fun w=>lock.new_ C.sh w
 have PN:=fun w=>pot.new_ C.hd w
 have hb:=cfg_bd hC
 have hnl:(lock.newV C.sh).length=C.sh.toNat:=by unfold lock.newV;rw [if_pos ⟨hb.1,hb.2.1⟩,List.length_replicate]
 rw [hC] at CF
 refine calls_of_exec (Sxt.env_ok.keeps.open_ [1000001] true) Tryz.func50 rfl [(5,(line [0,1,2,3,4,5,6,7,8],[1]))] (schedQ_ok _ _ (by kernel_rfl)) [] (by simp) ?_
 conv=>arg 5;whnf
 refine meetc (f:=96) (v:=.bool true) rfl (by kernel_rfl) (fun β ρ w' hM'=>CF w') ?_
 conv=>arg 5;whnf
 refine meet1F (f:=97) (n:=(lock.newV C.sh).length) (v:=fun a1 c1=>.tuple #[.slice a1 (lock.newV C.sh).length c1,.int .i64 (lock.newE C.sh)]) (xs:=ic (lock.newV C.sh)) rfl (by kernel_rfl) (fun β ρ w' hM'=>LN w') (fun u c_u h_u f_u=>?_)
 conv=>arg 5;whnf
 refine meetc (f:=98) (v:=.tuple #[pot.two 0 (pot.newM C.hd),.int .i64 (pot.newE C.hd)]) rfl (by kernel_rfl) (fun β ρ w' hM'=>PN w') ?_
 conv=>arg 5;whnf
 refine op_makeS Sxt.env_ok (j:=C.sh) (el:=125) (size:=2) (bytes:=32) (zt:=[.v (.slice none 0 0),.v (.int .i64 0)]) (zs:=[.slice none 0 0,.int .i64 0]) rfl rfl rfl (by kernel_rfl) (by kernel_rfl) rfl rfl (by omega) (by omega) (by omega) (fun g hg=>?_)
 conv=>arg 5;whnf
 have hsh:Sl (some ⟨g,0,none⟩) C.sh.toNat C.sh.toNat:=⟨Nat.le_refl _,by unfold maxLen;omega,fun h=>by cases h⟩
 refine wp_back fun β ρ w' hM'=>⟨⟨u,c_u,some ⟨g,0,none⟩,C.sh.toNat,List.replicate C.sh.toNat shd0⟩,⟨h_u,by rw [List.length_replicate];exact hsh,fun q hq=>?_,?_⟩,?_,hM'.below,fun φ hφ g2 hg2=>?_⟩
 ·rw [(List.mem_replicate.1 hq).2]
  exact ⟨sl0,rfl,fun z hz=>by cases hz⟩
 ·show (List.replicate C.sh.toNat shd0).map shdP=List.replicate C.sh.toNat ([],0)
  rw [List.map_replicate]
  rfl
 ·unfold sgV
  rw [List.length_replicate]
  rfl
 ·rcases List.mem_cons.1 hφ with rfl | hφ
  ·exact ⟨.inl (f_u g2 hg2),(hM'.fact (rowF (pt u (lock.newV C.sh).length) (ic (lock.newV C.sh))) (.tail _ (.head _)) g2 hg2).2⟩
  ·rcases List.mem_cons.1 hφ with rfl | hφ
   ·rw [List.length_replicate,← reps_shd] at hg2 ⊢
    exact pt_mem C.sh.toNat hM' (.head _) (fun ad had=>.inl (by cases had;exact hg)) g2 hg2
   ·obtain ⟨q,hq,hφ⟩:=List.mem_flatMap.1 hφ
    rw [(List.mem_replicate.1 hq).2] at hφ
    rcases List.mem_cons.1 hφ with rfl | hφ
    ·cases hg2
    ·cases hφ
end Go.Proofs.YtfhgkkcpkcjbmaaGreatDoor.task
namespace Go.Proofs.YtfhgkkcpkcjbmaaGreatDoor.task
open Go.RowKit Go.ChangeShapes Go.WideShapes Sx txn queue greedy shard pool Go.Proofs.YtfhgkkcpkcjbmaaGreatDoor.look lock
abbrev shCf:List Sh:=[.int,.int,.int,.int,.int,.int,.int,.int]
abbrev shShd:Sh:=.flat [.row (.flat [.int,.int,.row (.flat shTx)]),.int]
theorem typed_ints:Typed Tryz.prog 24 (.row .int):=.row Tryz.underlying24 (by kernel_rfl) typed_int (by decide)
theorem typed_pot:Typed Tryz.prog 26 (.flat [.int,.int]):=.struct Tryz.underlying26 (.cons rfl typed_int (.cons rfl typed_int .nil)) (by kernel_rfl)
theorem typed_sight:Typed Tryz.prog 29 (.flat [.flat shCf,.row .int,.flat [.int,.int],.row shShd]):=.struct Tryz.underlying29 (.cons rfl typed_cfg (.cons rfl typed_ints (.cons rfl typed_pot (.cons rfl typed_shards .nil)))) (by kernel_rfl)
def Sg.fits (s:Sg):Prop:=Fits s.C.sh∧Fits s.C.so∧Fits s.C.hd∧Fits s.t∧Fits s.m∧∀z∈s.l,Fits z
theorem lies_cf {w:World} {vs:List Value} {ds:List D} (h:LiesL w shCf vs ds):∃C:Cf,vs=[.int .i64 C.sh,.int .i64 C.so,.int .i64 C.hd,.int .i64 C.per,.int .i64 C.bp,.int .i64 C.fd,.int .i64 C.wk,.int .i64 C.rm]∧Fits C.sh∧Fits C.so∧Fits C.hd:=by
 cases h with
 | cons h0 h=>
 cases h with
 | cons h1 h=>
 cases h with
 | cons h2 h=>
 cases h with
 | cons h3 h=>
 cases h with
 | cons h4 h=>
 cases h with
 | cons h5 h=>
 cases h with
 | cons h6 h=>
 cases h with
 | cons h7 h=>
 cases h
 cases h0 with
 | int f0=>
 cases h1 with
 | int f1=>
 cases h2 with
 | int f2=>
 cases h3 with
 | int f3=>
 cases h4 with
 | int f4=>
 cases h5 with
 | int f5=>
 cases h6 with
 | int f6=>
 cases h7 with
 | int f7=>
 exact ⟨⟨_,_,_,_,_,_,_,_⟩,rfl,f0,f1,f2⟩
theorem LiesN.intsT {w:World}:∀{vs:List Value} {ds:List D},LiesN w .int vs ds→∃l:List Int,vs=ic l∧ds.length=l.length∧∀z∈l,Fits z
 | _,_,.nil=>⟨[],rfl,rfl,by simp⟩
 | _,_,.cons h hl=>by
  obtain ⟨l,rfl,h2,h3⟩:=LiesN.intsT hl
  cases h with
  | int f=>
   refine ⟨_::l,rfl,by simp [h2],fun z hz=>?_⟩
   rcases List.mem_cons.1 hz with rfl | hz
   ·exact f
   ·exact h3 z hz
theorem lies_two {w:World} {vs:List Value} {ds:List D} (h:LiesL w [.int,.int] vs ds):∃x y,vs=[.int .i64 x,.int .i64 y]∧Fits x∧Fits y:=by
 cases h with
 | cons h0 h=>
 cases h with
 | cons h1 h=>
 cases h
 cases h0 with
 | int f0=>
 cases h1 with
 | int f1=>
 exact ⟨_,_,rfl,f0,f1⟩
section
variable {H : Type} {enc : TypeId × Value → H} {W : World} {r : Reach} {b0 base : Nat} {spare : Nat → Bool} {held : Bool} {v : Value} {d : DataW H} {p : List MemPlace}
theorem open_sight (hv:Value.okWide Tryz.prog W r b0 29 v) (h:DataW.Trod enc Tryz.prog W base spare held 29 v d p):∃(s:Sg) (x:Sn),v=sgV s x∧SgIn W x s∧s.fits:=by
 obtain ⟨vs,ds,rfl,hl⟩:=open_struct Tryz.underlying29 typed_sight hv h
 cases hl with
 | cons h0 hl=>
 cases hl with
 | cons h1 hl=>
 cases hl with
 | cons h2 hl=>
 cases hl with
 | cons h3 hl=>
 cases hl
 cases h0 with
 | flat h0=>
 obtain ⟨C,rfl,c1,c2,c3⟩:=lies_cf h0
 cases h1 with
 | row s1 n1 l1 a1=>
 obtain ⟨l,rfl,l2,l3⟩:=LiesN.intsT l1
 cases h2 with
 | flat h2=>
 obtain ⟨t,m,rfl,f1,f2⟩:=lies_two h2
 cases h3 with
 | row s4 n4 l4 a4=>
 obtain ⟨S,rfl,S2,S3⟩:=LiesN.shards l4
 rw [l2] at n1
 rw [S2] at n4
 subst n1 n4
 exact ⟨⟨C,l,t,m,S.map shdP⟩,⟨_,_,_,_,S⟩,rfl,⟨⟨s1,a1⟩,⟨s4,rfl,a4,S3⟩,rfl⟩,c1,c2,c3,f1,f2,l3⟩
end
end Go.Proofs.YtfhgkkcpkcjbmaaGreatDoor.task

