/- Layer 16 (task): lock, over the tables of types that tasks know. -/
import Derived.Test.YtfhgkkcpkcjbmaaGreatDoorKPoAll
import Derived.Test.YtfhgkkcpkcjbmaaGreatDoorKEnvL
import Derived.Lib.SliceRun
set_option linter.all false
set_option maxHeartbeats 4000000
set_option maxRecDepth 100000
namespace Go.Proofs.YtfhgkkcpkcjbmaaGreatDoor.lock
open Go.RowKit Sx queue greedy shard
theorem retB {x y:Bool} (h:x=y):Ending.returned (tup [.bool x])=.returned (.bool y):=by rw [h];rfl
theorem give1 {W:World} {m:M} {β ρ} {w':World} {a:Option Addr} {xs:List Value} (n:Nat) (hM:Mem W none m β ρ w') (hm:rowF a xs∈m.facts) (hf:Fresh W none a) :
  ∀φ∈[rowF (pt a n) xs],∀g,φ.g=some g→W.heap.size≤g∧∃o,w'.heap[g]?=some o∧φ.holds o:=by
 intro φ hφ
 simp only [List.mem_singleton] at hφ
 subst hφ
 exact giveF n hM hm hf
def ic (l:List Int):List Value:=l.map (Value.int .i64)
theorem ic_length (l:List Int):(ic l).length=l.length:=by simp [ic]
theorem ic_one (l:List Int):∀u∈ic l,u.oneCell'=true:=by
 intro u hu
 obtain ⟨z,_,rfl⟩:=List.mem_map.1 hu
 rfl
theorem ic_get {l:List Int} {k:Nat} {x:Int} (h:l[k]?=some x):(ic l)[k]?=some (.int .i64 x):=by simp [ic,h]
theorem ic_app (l m:List Int):ic (l++m)=ic l++ic m:=by simp [ic]
def hasB (l:List Int) (i:Int):Bool:=decide (0≤i∧i<l.length)
def at_ (l:List Int) (i:Int):Int:=l[i.toNat]?.getD 0
def freeB (l:List Int) (i:Int):Bool:=hasB l i&&(at_ l i==0)
def holdsB (l:List Int) (i who:Int):Bool:=decide (who≥1)&&(at_ l i==who)
def takeE (l:List Int) (i who:Int):Int:=bif !(hasB l i) || !decide (who≥1) then 1 else bif at_ l i==0 then 0 else 6
def giveE (l:List Int) (i who:Int):Int:=bif !(hasB l i) || !decide (who≥1) then 1 else bif at_ l i==who then 0 else 7
def withV (l:List Int) (i x:Int):List Int:=l.set i.toNat x
def takeV (l:List Int) (i who:Int):List Int:=bif takeE l i who==0 then withV l i who else l
def giveV (l:List Int) (i who:Int):List Int:=bif giveE l i who==0 then withV l i 0 else l
theorem has_iff {l:List Int} {i:Int}:hasB l i=true↔0≤i∧i<l.length:=by simp [hasB]
theorem at_get {l:List Int} {i:Int} (h:0≤i∧i<l.length):l[i.toNat]?=some (at_ l i):=by
 have:i.toNat<l.length:=by omega
 simp [at_,this]
theorem spl_set (l:List Int) (i:Nat) (x:Int) (h:i<l.length):spl (ic l) i [.int .i64 x]=ic (l.set i x):=by
 unfold spl ic
 rw [List.set_eq_take_append_cons_drop,if_pos h]
 simp [List.map_take,List.map_drop]
section
variable (l : List Int) (a : Option Addr) (n c : Nat) (w : World)
theorem has (i:Int) (hs:Sl a n c) (hn:n=l.length):Calls Tryz.prog 133 (List.toArray [.slice a n c,.int .i64 i]) w fun e w'=>e=.returned (.bool (hasB l i))∧Below w.heap.size w w':=by
 refine calls_of_exec (Env.Ok.howD Sxt.env_ok [(119,.fresh 3 1),(176,.fresh 3 1)]) Tryz.func133 rfl [] (by kernel_rfl) [] (by simp) ?_
 repeat' (first
  | (refine wp_g1 (fun h=>?_) (fun h=>?_))
  | exact wp_back fun β ρ w' hM=>⟨retB (by rw [Bool.eq_iff_iff];simp [hasB] at *;omega),hM.below⟩)
theorem somebody (who:Int):Calls Tryz.prog 175 (List.toArray [.int .i64 who]) w fun e w'=>e=.returned (.bool (decide (who≥1)))∧Below w.heap.size w w':=by
 refine calls_of_exec (Env.Ok.howD Sxt.env_ok [(119,.fresh 3 1),(176,.fresh 3 1)]) Tryz.func175 rfl [] (by kernel_rfl) [] (by simp) ?_
 exact wp_back fun β ρ w' hM=>⟨rfl,hM.below⟩
theorem clone (hs:Sl a n c) (hn:n=l.length) (hrow:At w (pt a n) (ic l)) (hl:l.length≤1000000) :
  Calls Tryz.prog 119 #[.slice a n c] w fun e w'=>∃v,e=.returned v∧Below w.heap.size w w'∧w'.ownsRow w.heap.size 3 1 v n (ic l):=by
 refine calls_of_row (Env.Ok.howD Sxt.env_ok [(119,.fresh 3 1),(176,.fresh 3 1)]) Tryz.func119 rfl [] (by kernel_rfl) (n:=2) rfl [.v (.slice a n c)] ⟨[],[],[rowF (pt a n) (ic l)]⟩ [] (mem_plain _ (at1 hrow)) (Rels.vals [.slice a n c]) ?_
 refine wp_prim (.bool a.isNone) (fun w=>by simp [eqGuard,Lib.run_eql_slice_nil w _ _ a n c 0 0 Tryz.underlying52]) ?_
 refine wp_br (fun h1=>?_) (fun h1=>?_)
 ·cases a with
  | some _=>cases h1
  | none=>
   have h0:=(hs.2.2 rfl).1
   exact wp_back fun β ρ w' hM'=>⟨_,rfl,hM'.below,by
    have hl0:l=[]:=List.eq_nil_of_length_eq_zero (by omega)
    subst hl0
    exact ⟨by simp [ic,h0],.inl ⟨rfl,h0⟩⟩⟩
 ·refine ⟨ic l,by rw [ic_length,hn];omega,ic_one l,fun β ρ w' hM' ad had j u hu=>?_,?_⟩
  ·subst had
   have h1:=hM'.at_ List.mem_cons_self
   rw [pt_pos (k:=0) (by have:=(List.getElem?_eq_some_iff.1 hu).1;rw [ic_length] at this;omega)] at h1
   exact h1.cell hu
  ·refine wp_must ⟨by show 0+n≤maxLen;unfold maxLen;omega,by show (0+n)*8≤140737488355328;omega,fun ha=>hs.2.2 ha⟩ ?_
   refine wp_end (fun β ρ w' v hM' hv=>⟨v,rfl,hM'.below,?_⟩)
   have:=hM'.mine (i:=0) (r:=⟨3,1,0+n,[]++ic l⟩) rfl hv
   simpa using this
end
theorem free (l:List Int) (a:Option Addr) (n c:Nat) (w:World) (i:Int) (hs:Sl a n c) (hn:n=l.length) (hrow:At w (pt a n) (ic l)):Calls Tryz.prog 76 (List.toArray [.slice a n c,.int .i64 i]) w fun e w'=>e=.returned (.bool (freeB l i))∧Below w.heap.size w w':=by
 refine calls_of_exec (Env.Ok.howD Sxt.env_ok [(119,.fresh 3 1),(176,.fresh 3 1)]) Tryz.func76 rfl [] (by kernel_rfl) [rowF (pt a n) (ic l)] (at1 hrow) ?_
 conv=>arg 5;whnf
 refine meetc rfl (by kernel_rfl) (fun β ρ w' hM'=>has l a n c w' i hs hn) ?_
 conv=>arg 5;whnf
 refine wp_g1 (fun h=>?_) (fun h=>?_)
 ·have h2:=has_iff.1 h
  conv=>arg 5;whnf
  refine wp_must ⟨by omega,by omega,hs.some (show i.toNat<n by omega)⟩ ?_
  conv=>arg 5;whnf
  refine readP (.int .i64 (at_ l i)) rfl List.mem_cons_self (show i.toNat<n by omega) (hs.some (show i.toNat<n by omega)) (ic_get (at_get h2)) (j:=i.toNat) (by simp) ?_
  conv=>arg 5;whnf
  exact wp_back fun β ρ w' hM'=>⟨by unfold freeB;rw [h];rfl,hM'.below⟩
 ·(conv=>arg 5;whnf)
  exact wp_back fun β ρ w' hM'=>⟨by unfold freeB;rw [h];rfl,hM'.below⟩
theorem holds (l:List Int) (a:Option Addr) (n c:Nat) (w:World) (i who:Int) (hs:Sl a n c) (hn:n=l.length) (hrow:At w (pt a n) (ic l)) (h2:0≤i∧i<l.length):Calls Tryz.prog 137 (List.toArray [.slice a n c,.int .i64 i,.int .i64 who]) w fun e w'=>e=.returned (.bool (holdsB l i who))∧Below w.heap.size w w':=by
 refine calls_of_exec (Env.Ok.howD Sxt.env_ok [(119,.fresh 3 1),(176,.fresh 3 1)]) Tryz.func137 rfl [] (by kernel_rfl) [rowF (pt a n) (ic l)] (at1 hrow) ?_
 conv=>arg 5;whnf
 refine meetc rfl (by kernel_rfl) (fun β ρ w' hM'=>somebody w' who) ?_
 conv=>arg 5;whnf
 refine wp_g1 (fun h=>?_) (fun h=>?_)
 ·(conv=>arg 5;whnf)
  refine wp_must ⟨by omega,by omega,hs.some (show i.toNat<n by omega)⟩ ?_
  conv=>arg 5;whnf
  refine readP (.int .i64 (at_ l i)) rfl List.mem_cons_self (show i.toNat<n by omega) (hs.some (show i.toNat<n by omega)) (ic_get (at_get h2)) (j:=i.toNat) (by simp) ?_
  conv=>arg 5;whnf
  exact wp_back fun β ρ w' hM'=>⟨by unfold holdsB;rw [h];rfl,hM'.below⟩
 ·(conv=>arg 5;whnf)
  exact wp_back fun β ρ w' hM'=>⟨by unfold holdsB;rw [h];rfl,hM'.below⟩
def srch (p:Nat→Bool):Nat→Nat→Nat
 | 0,k=>k
 | d+1,k=>bif p k then k else srch p d (k+1)
theorem srch_le (p:Nat→Bool):∀(d k:Nat),k≤srch p d k∧srch p d k≤k+d
 | 0,k=>by simp [srch]
 | d+1,k=>by
  unfold srch
  have:=srch_le p d (k+1)
  cases p k <;> simp <;> omega
theorem srch_not (p:Nat→Bool):∀(d k j:Nat),k≤j→j<srch p d k→p j=false
 | 0,k,j,h1,h2=>by simp [srch] at h2;omega
 | d+1,k,j,h1,h2=>by
  unfold srch at h2
  cases hp:p k with
  | true=>rw [hp] at h2;simp at h2;omega
  | false=>
   rw [hp] at h2
   by_cases e:k=j
   ·rw [← e];exact hp
   ·exact srch_not p d (k+1) j (by omega) h2
theorem srch_is (p:Nat→Bool):∀(d k:Nat),srch p d k<k+d→p (srch p d k)=true
 | 0,k,h=>by simp [srch] at h
 | d+1,k,h=>by
  unfold srch at h ⊢
  cases hp:p k with
  | true=>simpa using hp
  | false=>
   rw [hp] at h
   simp at h ⊢
   exact srch_is p d (k+1) (by omega)
theorem srch_at (p:Nat→Bool) {n k:Nat} (h:k<n):srch p (n - k) k=bif p k then k else srch p (n - (k+1)) (k+1):=by
 rw [show n - k=(n - (k+1))+1 from by omega]
 rfl
theorem search (l:List Int) (a:Option Addr) (n c:Nat) (g:FuncId) (p:Nat→Bool) (j:Nat) (who:Int) (w:World) (hs:Sl a n c) (hn:n=l.length) (hrow:At w (pt a n) (ic l)) (hj:j≤n) (hg:callable Tryz.prog g=true)
  (hp:∀(k:Nat) (w':World),k<n→Below w.heap.size w w'→Calls Tryz.prog g (List.toArray [.slice a n c,.int .i64 (k:Nat),.int .i64 who]) w' fun e w''=>e=.returned (.bool (p k))∧Below w'.heap.size w' w'') :
  Calls Tryz.prog 134 (List.toArray [.slice a n c,.int .i64 (j:Nat),.int .i64 who,.func (.func g) #[] #[]]) w fun e w'=>e=.returned (.int .i64 (srch p (n - j) j:Nat))∧Below w.heap.size w w':=by
 have hn63:=hs.le
 refine calls_of_exec (Env.Ok.howD Sxt.env_ok [(119,.fresh 3 1),(176,.fresh 3 1)]) Tryz.func134 rfl [] (by kernel_rfl) [rowF (pt a n) (ic l)] (at1 hrow) ?_
 conv=>arg 5;whnf
 refine loop_rule (Env.Ok.howD Sxt.env_ok [(119,.fresh 3 1),(176,.fresh 3 1)]) [] (by kernel_rfl) (fun k:Nat=>k≤n∧srch p (n - j) j=srch p (n - k) k) (fun k=>(⟨[],[],[rowF (pt a n) (ic l)]⟩,sl 25 [(0,.v (.slice a n c)),(1,.v (.int .i64 j)),(2,.v (.int .i64 who)),(3,.v (.func (.func g) #[] #[])),(8,.v (.int .i64 0)),(9,.v (.int .i64 (k:Nat)))])) (fun k=>n - k) j ⟨hj,rfl⟩ ⟨by repeat' first | exact trivial | refine ⟨.inl rfl,?_⟩ | refine ⟨.inr rfl,?_⟩,⟨by repeat' first | exact trivial | refine ⟨.inl rfl,?_⟩ | refine ⟨.inr rfl,?_⟩,by repeat' first | exact trivial | refine ⟨.inl rfl,?_⟩ | refine ⟨.inr rfl,?_⟩,fun _ h=>h⟩,rfl⟩ ?_
 rintro k ⟨hk,hr⟩
 conv=>arg 5;whnf
 refine wp_br (fun h1=>?_) (fun h1=>?_)
 ·have hlt:k<n:=by simp at h1;omega
  rw [srch_at p hlt] at hr
  conv=>arg 5;whnf
  refine meetc rfl hg (fun β ρ w' hM'=>hp k w' hlt hM'.below) ?_
  conv=>arg 5;whnf
  refine wp_br (fun h2=>?_) (fun h2=>?_)
  ·(conv=>arg 5;whnf)
   exact wp_back fun β ρ w' hM'=>⟨by rw [hr,h2];rfl,hM'.below⟩
  ·(conv=>arg 5;whnf)
   refine wp_must ⟨by omega,by omega⟩ ?_
   conv=>arg 5;whnf
   refine wp_end ⟨k+1,⟨hlt,by rw [hr,h2];rfl⟩,⟨by repeat' first | exact trivial | refine ⟨.inl rfl,?_⟩ | refine ⟨.inr rfl,?_⟩,⟨by repeat' first | exact trivial | refine ⟨.inl rfl,?_⟩ | refine ⟨.inr rfl,?_⟩,by repeat' first | exact trivial | refine ⟨.inl rfl,?_⟩ | refine ⟨.inr rfl,?_⟩,fun _ h=>h⟩,rfl⟩,by show n - (k+1)<n - k;omega⟩
 ·have hkn:k=n:=by simp at h1;omega
  subst hkn
  conv=>arg 5;whnf
  exact wp_back fun β ρ w' hM'=>⟨by rw [hr,Nat.sub_self];rfl,hM'.below⟩
def holdP (l:List Int) (who:Int) (k:Nat):Bool:=holdsB l k who
def ups (p:Nat→Bool) (k:Nat):List Int:=((List.range k).filter p).map Int.ofNat
theorem ups_succ (p:Nat→Bool) (k:Nat):ups p (k+1)=bif p k then ups p k++[(k:Int)] else ups p k:=by
 unfold ups
 rw [List.range_succ,List.filter_append]
 cases h:p k <;> simp [h]
theorem ups_le (p:Nat→Bool) (k:Nat):(ups p k).length≤k:=by
 have:=List.length_filter_le p (List.range k)
 simpa [ups] using this
theorem ups_skip (p:Nat→Bool) (k:Nat):∀d,(∀j,k≤j→j<k+d→p j=false)→ups p (k+d)=ups p k
 | 0,_=>rfl
 | d+1,h=>by
  rw [show k+(d+1)=(k+d)+1 from rfl,ups_succ,h (k+d) (by omega) (by omega)]
  exact ups_skip p k d (fun j h1 h2=>h j h1 (by omega))
def heldV (l:List Int) (who:Int):List Int:=ups (holdP l who) l.length
theorem held (l:List Int) (a:Option Addr) (n c:Nat) (w:World) (who:Int) (hs:Sl a n c) (hn:n=l.length) (hrow:At w (pt a n) (ic l)) (hl:l.length≤1000000):Calls Tryz.prog 79 (List.toArray [.slice a n c,.int .i64 who]) w fun e w'=>∃i:One,Sl i.1 (heldV l who).length i.2∧Gives w w' e (.slice i.1 (heldV l who).length i.2) [rowF (pt i.1 (heldV l who).length) (ic (heldV l who))]:=by
 have hn63:=hs.le
 have hHV:heldV l who=ups (holdP l who) n:=by rw [hn];rfl
 generalize heldV l who=hv at *
 have g1:=srch_le (holdP l who) (n - 0) 0
 have g2:=srch_not (holdP l who) (n - 0) 0
 refine calls_of_exec (Env.Ok.howD Sxt.env_ok [(119,.fresh 3 1),(176,.fresh 3 1)]) Tryz.func79 rfl [] (by kernel_rfl) [rowF (pt a n) (ic l)] (at1 hrow) ?_
 conv=>arg 5;whnf
 refine meetc rfl (by kernel_rfl) (fun β ρ w' hM'=>search l a n c _ (holdP l who) 0 who w' hs hn (hM'.at_ List.mem_cons_self) (Nat.zero_le _) (by kernel_rfl) (fun k w2 hk hb=>holds l a n c w2 k who hs hn ((hM'.at_ List.mem_cons_self).later hb) (by omega))) ?_
 conv=>arg 5;whnf
 refine loop_nil 5 3 1 rfl ?_
 conv=>arg 5;whnf
 refine loop_rule (Env.Ok.howD Sxt.env_ok [(119,.fresh 3 1),(176,.fresh 3 1)]) [] (by kernel_rfl) (fun i:Nat×List Int=>i.1≤n∧i.2=ups (holdP l who) i.1∧(i.1<n→holdP l who i.1=true)) (fun i=>(⟨[],[some ⟨3,1,i.2.length,ic i.2⟩],[rowF (pt a n) (ic l)]⟩,sl 24 [(0,.v (.slice a n c)),(1,.v (.int .i64 who)),(4,.v (.slice none 0 0)),(5,.r 0),(6,.v (.int .i64 (i.1:Nat)))])) (fun i=>n - i.1) (srch (holdP l who) (n - 0) 0,[]) ⟨by omega,?_,fun h=>srch_is _ _ _ (by simpa using h)⟩ ⟨by repeat' first | exact trivial | refine ⟨.inl rfl,?_⟩ | refine ⟨.inr rfl,?_⟩,⟨by repeat' first | exact trivial | refine ⟨.inl rfl,?_⟩ | refine ⟨.inr rfl,?_⟩,by repeat' first | exact trivial | refine ⟨.inl rfl,?_⟩ | refine ⟨.inr rfl,?_⟩,fun _ h=>h⟩,rfl⟩ ?_
 ·have:=ups_skip (holdP l who) 0 (srch (holdP l who) (n - 0) 0) (fun j h1 h2=>g2 j h1 (by omega))
  rw [Nat.zero_add] at this
  rw [this]
  rfl
 rintro ⟨k,out⟩ ⟨hk,hr,hi⟩
 simp only [] at hk hr hi
 have hlen:=ups_le (holdP l who) k
 rw [← hr] at hlen
 conv=>arg 5;whnf
 refine wp_br (fun h1=>?_) (fun h1=>?_)
 ·have hlt:k<n:=by simp at h1;omega
  have g3:=srch_le (holdP l who) (n - (k+1)) (k+1)
  have g4:=srch_not (holdP l who) (n - (k+1)) (k+1)
  have g5:srch (holdP l who) (n - (k+1)) (k+1)<n→holdP l who (srch (holdP l who) (n - (k+1)) (k+1))=true:=fun h=>srch_is _ _ _ (by omega)
  have g6:ups (holdP l who) (srch (holdP l who) (n - (k+1)) (k+1))=out++[(k:Int)]:=by
   have:=ups_skip (holdP l who) (k+1) (srch (holdP l who) (n - (k+1)) (k+1) - (k+1)) (fun j h1 h2=>g4 j h1 (by omega))
   rw [show k+1+(srch (holdP l who) (n - (k+1)) (k+1) - (k+1))=srch (holdP l who) (n - (k+1)) (k+1) from by omega] at this
   rw [this,ups_succ,hi hlt,hr]
   rfl
  conv=>arg 5;whnf
  refine wp_must ⟨by show out.length+1≤maxLen;unfold maxLen;omega,by show (out.length+1)*8≤140737488355328;omega⟩ ?_
  conv=>arg 5;whnf
  refine wp_must ⟨by omega,by omega⟩ ?_
  conv=>arg 5;whnf
  refine meetc rfl (by kernel_rfl) (fun β ρ w' hM'=>search l a n c _ (holdP l who) (k+1) who w' hs hn (hM'.at_ List.mem_cons_self) (by omega) (by kernel_rfl) (fun k w2 hk hb=>holds l a n c w2 k who hs hn ((hM'.at_ List.mem_cons_self).later hb) (by omega))) ?_
  generalize srch (holdP l who) (n - (k+1)) (k+1)=k2 at *
  have c1:ic (out++[(k:Int)])=ic out++[.int .i64 (k:Int)]:=ic_app _ _
  have l1:(out++[(k:Int)]).length=out.length+1:=by simp
  conv=>arg 5;whnf
  refine wp_end ⟨(k2,out++[(k:Int)]),⟨by omega,g6.symm,g5⟩,⟨by repeat' first | exact trivial | refine ⟨.inl rfl,?_⟩ | refine ⟨.inr rfl,?_⟩,⟨by repeat' first | exact trivial | refine ⟨.inl rfl,?_⟩ | refine ⟨.inr rfl,?_⟩,by show LeO (α:=Row) _ [some ⟨3,1,(out++[(k:Int)]).length,ic (out++[(k:Int)])⟩];simp only [c1,l1];repeat' first | exact trivial | refine ⟨.inl rfl,?_⟩ | refine ⟨.inr rfl,?_⟩,fun _ h=>h⟩,rfl⟩,by show n - k2<n - k;omega⟩
 ·have hkn:k=n:=by simp at h1;omega
  subst hkn
  rw [hHV,← hr]
  conv=>arg 5;whnf
  refine wp_share fun a1 c1 hs1 hf1=>?_
  conv=>arg 5;whnf
  exact wp_back fun β ρ w' hM'=>⟨(a1,c1),hs1,rfl,hM'.below,give1 _ hM' List.mem_cons_self hf1⟩
theorem with_ (l:List Int) (a:Option Addr) (n c:Nat) (w:World) (i x:Int) (hs:Sl a n c) (hn:n=l.length) (hrow:At w (pt a n) (ic l)) (hl:l.length≤1000000) (h2:0≤i∧i<l.length):Calls Tryz.prog 176 (List.toArray [.slice a n c,.int .i64 i,.int .i64 x]) w fun e w'=>∃v,e=.returned v∧Below w.heap.size w w'∧w'.ownsRow w.heap.size 3 1 v n (ic (withV l i x)):=by
 refine calls_of_row (Env.Ok.howD Sxt.env_ok [(119,.fresh 3 1),(176,.fresh 3 1)]) Tryz.func176 rfl [] (by kernel_rfl) (n:=6) rfl [.v (.slice a n c),.v (.int .i64 i),.v (.int .i64 x)] ⟨[],[],[rowF (pt a n) (ic l)]⟩ [] (mem_plain _ (at1 hrow)) (Rels.vals [.slice a n c,.int .i64 i,.int .i64 x]) ?_
 conv=>arg 5;whnf
 refine meetM n (ic l) rfl (by kernel_rfl) (fun β ρ w' hM'=>clone l a n c w' hs hn (hM'.at_ List.mem_cons_self) hl) ?_
 conv=>arg 5;whnf
 refine wp_must ⟨by omega,by show i<(n:Int);omega⟩ ?_
 conv=>arg 5;whnf
 refine wp_must (by rw [ic_length];show i.toNat*1+1≤l.length;omega) ?_
 have e1:spl (ic l) (i.toNat*1) [.int .i64 x]=ic (withV l i x):=by rw [Nat.mul_one];exact spl_set l i.toNat x (by omega)
 conv=>arg 5;whnf
 refine wp_end (fun β ρ w' v hM' hv=>⟨v,rfl,hM'.below,?_⟩)
 have:=hM'.mine (i:=0) (r:=⟨3,1,n,spl (ic l) (i.toNat*1) [.int .i64 x]⟩) rfl hv
 rw [e1] at this
 exact this
theorem take (l:List Int) (a:Option Addr) (n c:Nat) (w:World) (i who:Int) (hs:Sl a n c) (hn:n=l.length) (hrow:At w (pt a n) (ic l)) (hl:l.length≤1000000):Calls Tryz.prog 122 (List.toArray [.slice a n c,.int .i64 i,.int .i64 who]) w fun e w'=>∃i1:One,Sl i1.1 n i1.2∧Gives w w' e (.tuple #[.slice i1.1 n i1.2,.int .i64 (takeE l i who)]) [rowF (pt i1.1 n) (ic (takeV l i who))]:=by
 refine calls_of_exec (Env.Ok.howD Sxt.env_ok [(119,.fresh 3 1),(176,.fresh 3 1)]) Tryz.func122 rfl [] (by kernel_rfl) [rowF (pt a n) (ic l)] (at1 hrow) ?_
 conv=>arg 5;whnf
 refine meetc rfl (by kernel_rfl) (fun β ρ w' hM'=>has l a n c w' i hs hn) ?_
 conv=>arg 5;whnf
 refine wp_g0 (fun h=>?_) (fun h=>?_)
 ·have h0:hasB l i=true:=by simpa using h
  have h2:=has_iff.1 h0
  conv=>arg 5;whnf
  refine meetc rfl (by kernel_rfl) (fun β ρ w' hM'=>somebody w' who) ?_
  conv=>arg 5;whnf
  refine wp_br (fun h3=>?_) (fun h3=>?_)
  ·have h4:decide (who≥1)=false:=by simpa using h3
   conv=>arg 5;whnf
   refine meetM n (ic l) rfl (by kernel_rfl) (fun β ρ w' hM'=>clone l a n c w' hs hn (hM'.at_ List.mem_cons_self) hl) ?_
   conv=>arg 5;whnf
   refine wp_share fun a1 c1 hs1 hf1=>?_
   have hE:takeE l i who=1:=by unfold takeE;rw [h0,h4];rfl
   have hV:takeV l i who=l:=by unfold takeV;rw [hE];rfl
   rw [hE,hV]
   exact wp_back fun β ρ w' hM'=>⟨(a1,c1),hs1,rfl,hM'.below,give1 _ hM' List.mem_cons_self hf1⟩
  ·have h4:decide (who≥1)=true:=by simpa using h3
   conv=>arg 5;whnf
   refine meetc rfl (by kernel_rfl) (fun β ρ w' hM'=>free l a n c w' i hs hn (hM'.at_ List.mem_cons_self)) ?_
   conv=>arg 5;whnf
   refine wp_br (fun h5=>?_) (fun h5=>?_)
   ·have h6:(at_ l i==0)=false:=by simpa [freeB,holdsB,h0,h4] using h5
    conv=>arg 5;whnf
    refine meetM n (ic l) rfl (by kernel_rfl) (fun β ρ w' hM'=>clone l a n c w' hs hn (hM'.at_ List.mem_cons_self) hl) ?_
    conv=>arg 5;whnf
    refine wp_share fun a1 c1 hs1 hf1=>?_
    have hE:takeE l i who=6:=by unfold takeE;rw [h0,h4,h6];rfl
    have hV:takeV l i who=l:=by unfold takeV;rw [hE];rfl
    rw [hE,hV]
    exact wp_back fun β ρ w' hM'=>⟨(a1,c1),hs1,rfl,hM'.below,give1 _ hM' List.mem_cons_self hf1⟩
   ·have h6:(at_ l i==0)=true:=by simpa [freeB,holdsB,h0,h4] using h5
    have hE:takeE l i who=0:=by unfold takeE;rw [h0,h4,h6];rfl
    have hV:takeV l i who=withV l i who:=by unfold takeV;rw [hE];rfl
    rw [hE,hV]
    conv=>arg 5;whnf
    refine meetM n (ic (withV l i who)) rfl (by kernel_rfl) (fun β ρ w' hM'=>with_ l a n c w' i who hs hn (hM'.at_ List.mem_cons_self) hl h2) ?_
    conv=>arg 5;whnf
    refine wp_share fun a1 c1 hs1 hf1=>?_
    conv=>arg 5;whnf
    exact wp_back fun β ρ w' hM'=>⟨(a1,c1),hs1,rfl,hM'.below,give1 _ hM' List.mem_cons_self hf1⟩
 ·have h0:hasB l i=false:=by simpa using h
  conv=>arg 5;whnf
  refine meetM n (ic l) rfl (by kernel_rfl) (fun β ρ w' hM'=>clone l a n c w' hs hn (hM'.at_ List.mem_cons_self) hl) ?_
  conv=>arg 5;whnf
  refine wp_share fun a1 c1 hs1 hf1=>?_
  have hE:takeE l i who=1:=by unfold takeE;rw [h0];rfl
  have hV:takeV l i who=l:=by unfold takeV;rw [hE];rfl
  rw [hE,hV]
  exact wp_back fun β ρ w' hM'=>⟨(a1,c1),hs1,rfl,hM'.below,give1 _ hM' List.mem_cons_self hf1⟩
theorem give (l:List Int) (a:Option Addr) (n c:Nat) (w:World) (i who:Int) (hs:Sl a n c) (hn:n=l.length) (hrow:At w (pt a n) (ic l)) (hl:l.length≤1000000):Calls Tryz.prog 130 (List.toArray [.slice a n c,.int .i64 i,.int .i64 who]) w fun e w'=>∃i1:One,Sl i1.1 n i1.2∧Gives w w' e (.tuple #[.slice i1.1 n i1.2,.int .i64 (giveE l i who)]) [rowF (pt i1.1 n) (ic (giveV l i who))]:=by
 refine calls_of_exec (Env.Ok.howD Sxt.env_ok [(119,.fresh 3 1),(176,.fresh 3 1)]) Tryz.func130 rfl [] (by kernel_rfl) [rowF (pt a n) (ic l)] (at1 hrow) ?_
 conv=>arg 5;whnf
 refine meetc rfl (by kernel_rfl) (fun β ρ w' hM'=>has l a n c w' i hs hn) ?_
 conv=>arg 5;whnf
 refine wp_g0 (fun h=>?_) (fun h=>?_)
 ·have h0:hasB l i=true:=by simpa using h
  have h2:=has_iff.1 h0
  conv=>arg 5;whnf
  refine meetc rfl (by kernel_rfl) (fun β ρ w' hM'=>somebody w' who) ?_
  conv=>arg 5;whnf
  refine wp_br (fun h3=>?_) (fun h3=>?_)
  ·have h4:decide (who≥1)=false:=by simpa using h3
   conv=>arg 5;whnf
   refine meetM n (ic l) rfl (by kernel_rfl) (fun β ρ w' hM'=>clone l a n c w' hs hn (hM'.at_ List.mem_cons_self) hl) ?_
   conv=>arg 5;whnf
   refine wp_share fun a1 c1 hs1 hf1=>?_
   have hE:giveE l i who=1:=by unfold giveE;rw [h0,h4];rfl
   have hV:giveV l i who=l:=by unfold giveV;rw [hE];rfl
   rw [hE,hV]
   exact wp_back fun β ρ w' hM'=>⟨(a1,c1),hs1,rfl,hM'.below,give1 _ hM' List.mem_cons_self hf1⟩
  ·have h4:decide (who≥1)=true:=by simpa using h3
   conv=>arg 5;whnf
   refine meetc rfl (by kernel_rfl) (fun β ρ w' hM'=>holds l a n c w' i who hs hn (hM'.at_ List.mem_cons_self) h2) ?_
   conv=>arg 5;whnf
   refine wp_br (fun h5=>?_) (fun h5=>?_)
   ·have h6:(at_ l i==who)=false:=by simpa [freeB,holdsB,h0,h4] using h5
    conv=>arg 5;whnf
    refine meetM n (ic l) rfl (by kernel_rfl) (fun β ρ w' hM'=>clone l a n c w' hs hn (hM'.at_ List.mem_cons_self) hl) ?_
    conv=>arg 5;whnf
    refine wp_share fun a1 c1 hs1 hf1=>?_
    have hE:giveE l i who=7:=by unfold giveE;rw [h0,h4,h6];rfl
    have hV:giveV l i who=l:=by unfold giveV;rw [hE];rfl
    rw [hE,hV]
    exact wp_back fun β ρ w' hM'=>⟨(a1,c1),hs1,rfl,hM'.below,give1 _ hM' List.mem_cons_self hf1⟩
   ·have h6:(at_ l i==who)=true:=by simpa [freeB,holdsB,h0,h4] using h5
    have hE:giveE l i who=0:=by unfold giveE;rw [h0,h4,h6];rfl
    have hV:giveV l i who=withV l i 0:=by unfold giveV;rw [hE];rfl
    rw [hE,hV]
    conv=>arg 5;whnf
    refine meetM n (ic (withV l i 0)) rfl (by kernel_rfl) (fun β ρ w' hM'=>with_ l a n c w' i 0 hs hn (hM'.at_ List.mem_cons_self) hl h2) ?_
    conv=>arg 5;whnf
    refine wp_share fun a1 c1 hs1 hf1=>?_
    conv=>arg 5;whnf
    exact wp_back fun β ρ w' hM'=>⟨(a1,c1),hs1,rfl,hM'.below,give1 _ hM' List.mem_cons_self hf1⟩
 ·have h0:hasB l i=false:=by simpa using h
  conv=>arg 5;whnf
  refine meetM n (ic l) rfl (by kernel_rfl) (fun β ρ w' hM'=>clone l a n c w' hs hn (hM'.at_ List.mem_cons_self) hl) ?_
  conv=>arg 5;whnf
  refine wp_share fun a1 c1 hs1 hf1=>?_
  have hE:giveE l i who=1:=by unfold giveE;rw [h0];rfl
  have hV:giveV l i who=l:=by unfold giveV;rw [hE];rfl
  rw [hE,hV]
  exact wp_back fun β ρ w' hM'=>⟨(a1,c1),hs1,rfl,hM'.below,give1 _ hM' List.mem_cons_self hf1⟩
def newV (x:Int):List Int:=if 1≤x∧x≤8 then List.replicate x.toNat 0 else []
def newE (x:Int):Int:=if 1≤x∧x≤8 then 0 else 1
theorem reps_ic:∀(k:Nat),reps k [Value.int .i64 0]=ic (List.replicate k 0)
 | 0=>rfl
 | k+1=>by simp only [reps,reps_ic k];rfl
theorem new_ (x:Int) (w:World):Calls Tryz.prog 97 (List.toArray [.int .i64 x]) w fun e w'=>∃i:One,Sl i.1 (newV x).length i.2∧Gives w w' e (.tuple #[.slice i.1 (newV x).length i.2,.int .i64 (newE x)]) [rowF (pt i.1 (newV x).length) (ic (newV x))]:=by
 have no:¬ (1≤x∧x≤8)→newV x=[]∧newE x=1:=fun h=>⟨if_neg h,if_neg h⟩
 refine calls_of_exec (Env.Ok.howD Sxt.env_ok [(119,.fresh 3 1),(176,.fresh 3 1)]) Tryz.func97 rfl [] (by kernel_rfl) [] (by simp) ?_
 conv=>arg 5;whnf
 refine wp_g0 (fun h=>?_) (fun h=>?_)
 ·(conv=>arg 5;whnf)
  refine wp_br (fun h1=>?_) (fun h1=>?_)
  ·obtain ⟨e1,e2⟩:=no (by simp at h1;omega)
   rw [e1,e2]
   conv=>arg 5;whnf
   exact wp_back fun β ρ w' hM'=>⟨(none,0),⟨Nat.zero_le _,by simp [maxLen],fun _=>⟨rfl,rfl⟩⟩,rfl,hM'.below,fun φ hφ g hg=>by simp only [List.mem_singleton] at hφ;subst hφ;cases hg⟩
  ·have h2:1≤x∧x≤8:=by simp at h h1;omega
   have e1:newV x=List.replicate x.toNat 0:=if_pos h2
   have e2:newE x=0:=if_pos h2
   rw [e1,e2,List.length_replicate]
   conv=>arg 5;whnf
   refine wp_must ⟨by omega,rfl,by omega,by omega⟩ ?_
   conv=>arg 5;whnf
   rw [reps_ic];refine wp_share fun a1 c1 hs1 hf1=>?_
   conv=>arg 5;whnf
   exact wp_back fun β ρ w' hM'=>⟨(a1,c1),hs1,rfl,hM'.below,give1 _ hM' List.mem_cons_self hf1⟩
 ·obtain ⟨e1,e2⟩:=no (by simp at h;omega)
  rw [e1,e2]
  conv=>arg 5;whnf
  exact wp_back fun β ρ w' hM'=>⟨(none,0),⟨Nat.zero_le _,by simp [maxLen],fun _=>⟨rfl,rfl⟩⟩,rfl,hM'.below,fun φ hφ g hg=>by simp only [List.mem_singleton] at hφ;subst hφ;cases hg⟩
end Go.Proofs.YtfhgkkcpkcjbmaaGreatDoor.lock
