/- Calls, met by their contracts: in seats where lists of transactions lie (Row). -/
import Derived.Test.YtfhgkkcpkcjbmaaGreatDoorKQueN
import Derived.Test.YtfhgkkcpkcjbmaaGreatDoorKSxx
import Derived.Test.YtfhgkkcpkcjbmaaGreatDoorKBcOrd
set_option linter.all false
set_option maxHeartbeats 4000000
set_option maxRecDepth 100000
namespace Go.Proofs.YtfhgkkcpkcjbmaaGreatDoor.Sx
open Go.RowKit
section
variable {P : Program} {W : World} {G : Option Nat} {Q : Ending → World → Prop} {ds : List Deferred}
theorem wp_both {x y:Tree} (h:x.wpD P W G Q ds) (h':y.wpD P W G Q ds):(Tree.both x y).wpD P W G Q ds:=⟨h,h'⟩
end
end Go.Proofs.YtfhgkkcpkcjbmaaGreatDoor.Sx
namespace Go.Proofs.YtfhgkkcpkcjbmaaGreatDoor.heap
open Go.RowKit Sx txn queue
def nx (l:List Tx) (i:Nat):Tx:=l.getD i tx0
theorem nx_get {l:List Tx} {i:Nat} (h:i<l.length):l[i]?=some (nx l i):=by
 unfold nx
 rw [List.getD_eq_getElem?_getD,List.getElem?_eq_getElem h]
 rfl
theorem nx_mem {l:List Tx} {i:Nat} (h:i<l.length):nx l i∈l:=List.mem_of_getElem? (nx_get h)
end Go.Proofs.YtfhgkkcpkcjbmaaGreatDoor.heap
namespace Go.Proofs.YtfhgkkcpkcjbmaaGreatDoor.heap
open Go.RowKit Sx txn queue
def worstTo (l:List Tx):Nat→Nat
 | 0=>0
 | k+1=>if betterV (nx l (worstTo l k)) (nx l k)=true then k else worstTo l k
theorem worstTo_lt (l:List Tx):∀k,worstTo l k≤k - 1
 | 0=>Nat.le_refl _
 | k+1=>by
  have:=worstTo_lt l k
  unfold worstTo
  split <;> omega
theorem worst_ (l:List Tx) (a:Option Addr) (n c:Nat) (w:World) (hM:Most w) (hs:Sl a n c) (hn:n=l.length) (hl:l.length≤100000) (hd:∀x∈l,x.d.size≤maxLen) (hrow:At w (pt a n) (cellsL l)) :
  Calls Tryz.prog 178 (List.toArray [.slice a n c]) w fun e w'=>e=.returned (.tuple #[.int .i64 (worstTo l n:Nat),.bool (decide (0<n))])∧Below w.heap.size w w':=by
 have hn63:=hs.le
 refine calls_of_exec env_ok Tryz.func178 rfl [(5,(line [0,1,2,3,4,5,6,7,8],[]))] (schedQ_ok _ _ (by kernel_rfl)) [rowF (pt a n) (cellsL l)] (at1 hrow) ?_
 conv=>arg 5;whnf
 refine loop_rule env_ok [(5,(line [0,1,2,3,4,5,6,7,8],[]))] (schedQ_ok _ _ (by kernel_rfl)) (fun k:Nat=>k≤n) (fun k=>(⟨[],[],[rowF (pt a n) (cellsL l)]⟩,sl 26 [(0,.v (.slice a n c)),(2,.v (.int .i64 0)),(3,.v (.bool false)),(4,.v (.int .i64 (worstTo l k:Nat))),(6,.v (.slice a n c)),(7,.v (.int .i64 n)),(8,.v (.int .i64 k))])) (fun k=>n - k) 0 (Nat.zero_le _) ⟨by repeat' first | exact trivial | refine ⟨.inl rfl,?_⟩ | refine ⟨.inr rfl,?_⟩,⟨by repeat' first | exact trivial | refine ⟨.inl rfl,?_⟩ | refine ⟨.inr rfl,?_⟩,by repeat' first | exact trivial | refine ⟨.inl rfl,?_⟩ | refine ⟨.inr rfl,?_⟩,fun _ h=>h⟩,rfl⟩ ?_
 intro k hk
 conv=>arg 5;whnf
 refine wp_br (fun h1=>?_) (fun h1=>?_)
 ·have hlt:k<n:=by simp at h1;omega
  have hw:=worstTo_lt l k
  have hx:=nx_get (l:=l) (i:=worstTo l k) (by omega)
  have hy:=nx_get (l:=l) (i:=k) (by omega)
  have hlw:worstTo l k<n:=by omega
  have hst:worstTo l (k+1)=if betterV (nx l (worstTo l k)) (nx l k)=true then k else worstTo l k:=rfl
  have B:=fun w hM=>better (nx l (worstTo l k)) (nx l k) w hM (hd _ (nx_mem (by omega))) (hd _ (nx_mem (by omega)))
  conv=>arg 5;whnf
  refine wp_must ⟨by omega,by omega,hs.some hlw⟩ ?_
  conv=>arg 5;whnf
  refine readX (l:=l) (k:=worstTo l k) rfl List.mem_cons_self hlw (hs.some hlw) hx rfl ?_
  conv=>arg 5;whnf
  refine wp_must ⟨by omega,by omega,hs.some hlt⟩ ?_
  conv=>arg 5;whnf
  refine readX (l:=l) (k:=k) rfl List.mem_cons_self hlt (hs.some hlt) hy rfl ?_
  conv=>arg 5;whnf
  refine meetc (v:=.bool (betterV (nx l (worstTo l k)) (nx l k))) rfl (by kernel_rfl) (fun β ρ w' hM'=>B w' (hM.later hM'.below)) ?_
  conv=>arg 5;whnf
  refine wp_br (fun h2=>?_) (fun h2=>?_)
  ·(conv=>arg 5;whnf)
   refine wp_must ⟨by omega,by omega⟩ ?_
   conv=>arg 5;whnf
   refine wp_end ⟨k+1,hlt,(by rw [hst,if_pos h2];exact ⟨by repeat' first | exact trivial | refine ⟨.inl rfl,?_⟩ | refine ⟨.inr rfl,?_⟩,⟨by repeat' first | exact trivial | refine ⟨.inl rfl,?_⟩ | refine ⟨.inr rfl,?_⟩,by repeat' first | exact trivial | refine ⟨.inl rfl,?_⟩ | refine ⟨.inr rfl,?_⟩,fun _ h=>h⟩,rfl⟩),by show n - (k+1)<n - k;omega⟩
  ·(conv=>arg 5;whnf)
   refine wp_must ⟨by omega,by omega⟩ ?_
   conv=>arg 5;whnf
   refine wp_end ⟨k+1,hlt,(by rw [hst,if_neg (by rw [h2];simp)];exact ⟨by repeat' first | exact trivial | refine ⟨.inl rfl,?_⟩ | refine ⟨.inr rfl,?_⟩,⟨by repeat' first | exact trivial | refine ⟨.inl rfl,?_⟩ | refine ⟨.inr rfl,?_⟩,by repeat' first | exact trivial | refine ⟨.inl rfl,?_⟩ | refine ⟨.inr rfl,?_⟩,fun _ h=>h⟩,rfl⟩),by show n - (k+1)<n - k;omega⟩
 ·have hkn:k=n:=by simp at h1;omega
  subst hkn
  conv=>arg 5;whnf
  exact wp_back fun β ρ w' hM'=>⟨by (have e:decide ((k:Int)>0)=decide (0<k):=by simp);show Ending.returned (.tuple #[.int .i64 (worstTo l k:Nat),.bool (decide ((k:Int)>0))])=_;rw [e],hM'.below⟩
end Go.Proofs.YtfhgkkcpkcjbmaaGreatDoor.heap
