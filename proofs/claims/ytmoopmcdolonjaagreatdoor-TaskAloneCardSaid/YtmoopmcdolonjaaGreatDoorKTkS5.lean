/- What is wanted of ShAll besides. -/
import Derived.Test.YtmoopmcdolonjaaGreatDoorKTkRR
set_option linter.all false
set_option maxHeartbeats 4000000
set_option maxRecDepth 100000
namespace Go.Proofs.YtmoopmcdolonjaaGreatDoor.shard
section
variable {α β : Type}
theorem srt_len (f:α→Int) (L:List α):(srt f L).length=L.length:=(srt_perm f L).length_eq
theorem srt_snoc (f:α→Int) (L:List α) (x:α):srt f (L++[x])=ins f x (srt f L):=by unfold srt;rw [List.foldl_append];rfl
end
end Go.Proofs.YtmoopmcdolonjaaGreatDoor.shard
namespace Go.Proofs.YtmoopmcdolonjaaGreatDoor.shard
open Go.RowKit Sx txn queue greedy
theorem allS_take {S:List Shd} {k:Nat} {q:Shd} (h:S[k]?=some q):allS (S.take (k+1))=allS (S.take k)++q.L:=by unfold allS;rw [List.take_add_one,h,List.flatMap_append];simp
theorem allS_le (S:List Shd) (k:Nat):(allS (S.take k)).length≤(allS S).length:=by
 have:allS S=allS (S.take k)++allS (S.drop k):=by unfold allS;rw [← List.flatMap_append,List.take_append_drop]
 rw [this,List.length_append];omega
theorem acF_all {a n} {S:List Shd} {x:Ac} (hx:x∈allS S):acF x∈shsF a n S:=by
 obtain ⟨q,hq,hx⟩:=List.mem_flatMap.1 hx
 exact .tail _ (List.mem_flatMap.2 ⟨q,hq,.tail _ (List.mem_map.2 ⟨x,hx,rfl⟩)⟩)
end Go.Proofs.YtmoopmcdolonjaaGreatDoor.shard
namespace Go.Proofs.YtmoopmcdolonjaaGreatDoor.shard
open Go.RowKit Sx txn queue greedy
theorem rjoin (S:List Shd) (a:Option Addr) (n c:Nat) (w:World) (hS:Shs w a n c S) (hn1:n≤100000) (hall:(allS S).length≤100000) :
  Calls Tryz.prog 10 (List.toArray [.slice a n c]) w fun e w'=>∃i:One,Sl i.1 (srt (fun x:Ac=>x.s) (allS S)).length i.2∧Gives w w' e (.slice i.1 (srt (fun x:Ac=>x.s) (allS S)).length i.2) [rowF (pt i.1 (srt (fun x:Ac=>x.s) (allS S)).length) (cellsA (srt (fun x:Ac=>x.s) (allS S)))]:=by
 have hs:=hS.1
 have hn:=hS.2.1
 have hn63:=hs.le
 refine calls_of_exec Sxs.env_ok.keeps Tryz.func10 rfl [] (schedQ_ok _ _ (by kernel_rfl)) (shsF a n S) hS.facts ?_
 conv=>arg 5;whnf
 refine loop_fact (rowF none []) (fun g hg=>by cases hg) ?_
 refine loop_rule Sxs.env_ok.keeps [] (schedQ_ok _ _ (by kernel_rfl)) (fun i:Nat×One=>i.1≤n∧Sl i.2.1 (srt (fun x:Ac=>x.s) (allS (S.take i.1))).length i.2.2∧(∀g,(rowF (pt i.2.1 (srt (fun x:Ac=>x.s) (allS (S.take i.1))).length) (cellsA (srt (fun x:Ac=>x.s) (allS (S.take i.1))))).g=some g→w.heap.size≤g)) (fun i=>(⟨[],[],rowF (pt i.2.1 (srt (fun x:Ac=>x.s) (allS (S.take i.1))).length) (cellsA (srt (fun x:Ac=>x.s) (allS (S.take i.1))))::shsF a n S⟩,[.v (.slice a n c),.any,.any,.v (.slice i.2.1 (srt (fun x:Ac=>x.s) (allS (S.take i.1))).length i.2.2),.v (.int .i64 i.1),.any,.any,.any,.any,.any,.any,.any,.any,.any,.any,.any,.any,.any,.any,.any,.any,.any,.any,.any,.any,.any,.any,.any,.any,.any,.any,.any,.any])) (fun i=>n - i.1) (0,(none,0)) ⟨Nat.zero_le _,⟨Nat.le_refl _,Nat.zero_le _,fun _=>⟨rfl,rfl⟩⟩,fun g hg=>by cases hg⟩ ⟨by repeat' first | exact trivial | refine ⟨.inl rfl,?_⟩ | refine ⟨.inr rfl,?_⟩,⟨by repeat' first | exact trivial | refine ⟨.inl rfl,?_⟩ | refine ⟨.inr rfl,?_⟩,by repeat' first | exact trivial | refine ⟨.inl rfl,?_⟩ | refine ⟨.inr rfl,?_⟩,fun _ h=>h⟩,rfl⟩ ?_
 rintro ⟨k,o⟩ ⟨hk,ho,hfr⟩
 have hk:k≤n:=hk
 have ho:Sl o.1 (srt (fun x:Ac=>x.s) (allS (S.take k))).length o.2:=ho
 conv=>arg 5;whnf
 refine wp_br (fun h1=>?_) (fun h1=>?_)
 ·have hlt:k<n:=by have h3:=of_decide_eq_true (show decide ((k:Int)<(n:Int))=true from h1);omega
  obtain ⟨q,hq⟩:∃q,S[k]?=some q:=⟨_,List.getElem?_eq_getElem (by omega)⟩
  have hqm:q∈S:=List.mem_of_getElem? hq
  obtain ⟨qs,qn,qa,qx⟩:=hS.2.2.2 q hqm
  have htk:=allS_take hq
  have hb1:=allS_le S (k+1)
  have hq63:=qs.le
  have hmem:rowF (pt q.a q.n) (cellsA q.L)∈shsF a n S:=.tail _ (List.mem_flatMap.2 ⟨q,hqm,.head _⟩)
  conv=>arg 5;whnf
  refine loop_rule Sxs.env_ok.keeps [] (schedQ_ok _ _ (by kernel_rfl)) (fun i:Nat×One=>i.1≤q.n∧Sl i.2.1 (srt (fun x:Ac=>x.s) (allS (S.take k)++q.L.take i.1)).length i.2.2∧(∀g,(rowF (pt i.2.1 (srt (fun x:Ac=>x.s) (allS (S.take k)++q.L.take i.1)).length) (cellsA (srt (fun x:Ac=>x.s) (allS (S.take k)++q.L.take i.1)))).g=some g→w.heap.size≤g)) (fun i=>(⟨[],[],rowF (pt i.2.1 (srt (fun x:Ac=>x.s) (allS (S.take k)++q.L.take i.1)).length) (cellsA (srt (fun x:Ac=>x.s) (allS (S.take k)++q.L.take i.1)))::shsF a n S⟩,[.v (.slice a n c),.any,.any,.v (.slice i.2.1 (srt (fun x:Ac=>x.s) (allS (S.take k)++q.L.take i.1)).length i.2.2),.v (.int .i64 k),.v (.int .i64 i.1),.any,.any,.any,.any,.any,.any,.any,.any,.any,.any,.any,.any,.any,.any,.any,.any,.any,.any,.any,.any,.any,.any,.any,.any,.any,.any,.any])) (fun i=>q.n - i.1) (0,o) ⟨Nat.zero_le _,by rw [List.take_zero,List.append_nil];exact ho,by rw [List.take_zero,List.append_nil];exact hfr⟩ (by rw [List.take_zero,List.append_nil];exact ⟨by repeat' first | exact trivial | refine ⟨.inl rfl,?_⟩ | refine ⟨.inr rfl,?_⟩,⟨by repeat' first | exact trivial | refine ⟨.inl rfl,?_⟩ | refine ⟨.inr rfl,?_⟩,by repeat' first | exact trivial | refine ⟨.inl rfl,?_⟩ | refine ⟨.inr rfl,?_⟩,fun _ h=>h⟩,rfl⟩) ?_
  rintro ⟨t,p⟩ ⟨ht,hp,hpf⟩
  have ht:t≤q.n:=ht
  have hp:Sl p.1 (srt (fun x:Ac=>x.s) (allS (S.take k)++q.L.take t)).length p.2:=hp
  conv=>arg 5;whnf
  refine wp_must ⟨by omega,by show (k:Int)<(n:Int);omega,hs.some hlt⟩ ?_
  conv=>arg 5;whnf
  refine readF (sz:=2) (k:=k) (f:=0) (.slice q.a q.n q.c) rfl (by exact .tail _ (.head _)) hlt (hs.some hlt) (cellsS_at hq 0 _ rfl) rfl ?_
  conv=>arg 5;whnf
  refine wp_br (fun h2=>?_) (fun h2=>?_)
  ·have hlt2:t<q.n:=by have h3:=of_decide_eq_true (show decide ((t:Int)<(q.n:Int))=true from h2);omega
   obtain ⟨x,hx⟩:∃x,q.L[t]?=some x:=⟨_,List.getElem?_eq_getElem (by omega)⟩
   have htt:srt (fun x:Ac=>x.s) (allS (S.take k)++q.L.take (t+1))=ins (fun x:Ac=>x.s) x (srt (fun x:Ac=>x.s) (allS (S.take k)++q.L.take t)):=by rw [List.take_add_one,hx,← List.append_assoc];exact srt_snoc _ _ _
   have hl9:(srt (fun x:Ac=>x.s) (allS (S.take k)++q.L.take t)).length≤1000000:=by
    rw [srt_len,List.length_append,List.length_take]
    rw [htk,List.length_append] at hb1
    omega
   have PT:=fun w hr=>rput (srt (fun x:Ac=>x.s) (allS (S.take k)++q.L.take t)) x p.1 _ p.2 w hp rfl hr hl9
   rw [← htt] at PT
   conv=>arg 5;whnf
   refine wp_must ⟨by omega,by show (k:Int)<(n:Int);omega,hs.some hlt⟩ ?_
   conv=>arg 5;whnf
   refine readF (sz:=2) (k:=k) (f:=0) (.slice q.a q.n q.c) rfl (by exact .tail _ (.head _)) hlt (hs.some hlt) (cellsS_at hq 0 _ rfl) rfl ?_
   conv=>arg 5;whnf
   refine wp_must ⟨by omega,by show (t:Int)<(q.n:Int);omega,qs.some hlt2⟩ ?_
   conv=>arg 5;whnf
   refine readG Sxs.env_ok (vs:=x.cs) (sz:=3) (k:=t) rfl rfl (by exact .tail _ hmem) hlt2 (qs.some hlt2) (cellsA_at hx) rfl ?_
   conv=>arg 5;whnf
   refine meet1F (f:=31) (n:=(srt (fun x:Ac=>x.s) (allS (S.take k)++q.L.take (t+1))).length) (v:=fun a1 c1=>.slice a1 (srt (fun x:Ac=>x.s) (allS (S.take k)++q.L.take (t+1))).length c1) (xs:=cellsA (srt (fun x:Ac=>x.s) (allS (S.take k)++q.L.take (t+1)))) rfl (by kernel_rfl) (fun β ρ w' hM'=>PT w' (hM'.at_ (.head _))) (fun y c_y h_y f_y=>?_)
   conv=>arg 5;whnf
   refine wp_must ⟨by show -9223372036854775808≤(t:Int)+1;omega,by show (t:Int)+1≤9223372036854775807;omega⟩ ?_
   conv=>arg 5;whnf
   refine wp_end ⟨(t+1,(y,c_y)),⟨hlt2,h_y,f_y⟩,⟨by repeat' first | exact trivial | refine ⟨.inl rfl,?_⟩ | refine ⟨.inr rfl,?_⟩,⟨by repeat' first | exact trivial | refine ⟨.inl rfl,?_⟩ | refine ⟨.inr rfl,?_⟩,by repeat' first | exact trivial | refine ⟨.inl rfl,?_⟩ | refine ⟨.inr rfl,?_⟩,fun φ hφ=>(List.mem_cons.1 hφ).elim (fun e=>by subst e;exact .head _) fun h=>.tail _ (.tail _ h)⟩,rfl⟩,by show q.n - (t+1)<q.n - t;omega⟩
  ·have hte:t=q.n:=by have h3:=of_decide_eq_false (show decide ((t:Int)<(q.n:Int))=false from h2);omega
   have e:q.L.take t=q.L:=List.take_of_length_le (by omega)
   rw [e,← htk] at hp hpf
   conv=>arg 5;whnf
   refine wp_must ⟨by show -9223372036854775808≤(k:Int)+1;omega,by show (k:Int)+1≤9223372036854775807;omega⟩ ?_
   conv=>arg 5;whnf
   refine wp_end ⟨(k+1,p),⟨hlt,hp,hpf⟩,(by rw [e,← htk];exact ⟨by repeat' first | exact trivial | refine ⟨.inl rfl,?_⟩ | refine ⟨.inr rfl,?_⟩,⟨by repeat' first | exact trivial | refine ⟨.inl rfl,?_⟩ | refine ⟨.inr rfl,?_⟩,by repeat' first | exact trivial | refine ⟨.inl rfl,?_⟩ | refine ⟨.inr rfl,?_⟩,fun _ h=>h⟩,rfl⟩),by show n - (k+1)<n - k;omega⟩
 ·have hkn:k=n:=by have h3:=of_decide_eq_false (show decide ((k:Int)<(n:Int))=false from h1);omega
  have e:S.take k=S:=List.take_of_length_le (by omega)
  rw [e] at ho hfr
  rw [e]
  conv=>arg 5;whnf
  refine wp_back fun β ρ w' hM'=>⟨o,ho,rfl,hM'.below,fun φ hφ g' hg'=>?_⟩
  simp only [List.mem_singleton] at hφ
  subst hφ
  exact ⟨hfr g' hg',hM'.at_ (.head _) g' hg'⟩
end Go.Proofs.YtmoopmcdolonjaaGreatDoor.shard
