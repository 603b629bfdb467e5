/- Layer 5 (queue), by contract: where a nonce stands. -/
import Derived.Test.YtdbjakibneeeiaaGreatDoorKRow
import Derived.Test.YtdbjakibneeeiaaGreatDoorChecked
import Derived.WalkKit
import Derived.ProofKit
import Derived.WalkLawsBesides
import Derived.Lib.Hide
set_option linter.all false
set_option maxHeartbeats 4000000
set_option maxRecDepth 100000
namespace Go.Proofs.YtdbjakibneeeiaaGreatDoor.queue
open Go.RowKit Sx txn
def srch (p:Nat→Int→Bool):List Tx→Nat→Nat
 | [],k=>k
 | x::l,k=>bif p k x.n then k else srch p l (k+1)
theorem srch_drop (p:Nat→Int→Bool):∀(l:List Tx) (k:Nat) (i:Nat) (x:Tx),l[i]?=some x→srch p (l.drop i) k=bif p k x.n then k else srch p (l.drop (i+1)) (k+1)
 | [],k,i,x,h=>by simp at h
 | y::l,k,0,x,h=>by simp at h;subst h;rfl
 | y::l,k,i+1,x,h=>by simpa using srch_drop p l k i x (by simpa using h)
theorem search (l:List Tx) (a:Option Addr) (n c:Nat) (g:FuncId) (cs:List Value) (p:Nat→Int→Bool) (w:World) (hs:Sl a n c) (hn:n=l.length) (hrow:At w (pt a n) (cellsL l)) (hg:callable Tryz.prog g=true)
  (hp:∀(k:Nat) (v:Int) (w':World),Below w.heap.size w w'→k<n→Calls Tryz.prog g (List.toArray ([.int .i64 k,.int .i64 v]++cs)) w' fun e w''=>e=.returned (.bool (p k v))∧Below w'.heap.size w' w'') :
  Calls Tryz.prog 204 (List.toArray [.slice a n c,.func (.func g) #[] cs.toArray]) w fun e w'=>e=.returned (.int .i64 (srch p l 0))∧Below w.heap.size w w':=by
 refine calls_of_exec env_ok Tryz.func204 rfl [] (by kernel_rfl) [rowF (pt a n) (cellsL l)] (at1 hrow) ?_
 have hn63:=hs.le
 refine scope_rule env_ok [] 0 rfl (by kernel_rfl) (by kernel_rfl) (fun k:Nat=>k≤n∧srch p l 0=srch p (l.drop k) k) (fun k=>(⟨[],[],[rowF (pt a n) (cellsL l)]⟩,[.v (.slice a n c),.v (.func (.func g) #[] cs.toArray),.any,.any,.v (.int .i64 0),.v (.int .i64 k),.any,.any,.any,.any,.any,.any,.any,.any,.any,.any,.any,.any,.any,.any,.any,.any,.any])) (fun k=>n - k) (n+1) ?_ ?_
 rotate_left
 ·rintro k ⟨hk,hsr⟩
  refine wp_g0 (fun h1=>?_) (fun h1=>?_)
  ·have hlt:k<n:=by simp at h1;omega
   refine wp_must ⟨by omega,by omega,hs.some hlt⟩ ?_
   have hx:l[k]?=some l[k]:=List.getElem?_eq_getElem (by omega)
   refine read1 (.int .i64 l[k].n) rfl (List.mem_cons_self) hlt (hs.some hlt) hx (f:=1) rfl rfl ?_
   refine meet (.bool (p k l[k].n)) hg (fun β ρ w' vs hM hR=>?_) ?_
   ·obtain rfl:=Rels.vals_eq (l:=[.int .i64 k,.int .i64 l[k].n]++cs) hR
    exact hp k _ w' hM.below hlt
   ·refine wp_br (fun h2=>?_) (fun h2=>?_)
    ·refine wp_back fun β ρ w' hM=>⟨?_,hM.below⟩
     rw [hsr,srch_drop p l k k _ hx,h2]
     rfl
    ·refine wp_must ⟨by omega,by omega⟩ ?_
     refine wp_end ⟨rfl,k+1,⟨hlt,?_⟩,?_,?_⟩
     ·rw [hsr,srch_drop p l k k _ hx,h2];rfl
     ·exact ⟨by repeat' first | exact trivial | refine ⟨.inl rfl,?_⟩ | refine ⟨.inr rfl,?_⟩,⟨trivial,trivial,fun _ h=>h⟩,rfl⟩
     ·omega
  ·refine wp_back fun β ρ w' hM=>⟨?_,hM.below⟩
   have:k=n:=by simp at h1;omega
   rw [hsr,List.drop_eq_nil_of_le (by omega)]
   rfl
 ·have hk:0≤n:=Nat.zero_le _
  have hsr:srch p l 0=srch p (l.drop 0) 0:=rfl
  refine wp_g0 (fun h1=>?_) (fun h1=>?_)
  ·have hlt:0<n:=by simp at h1;omega
   refine wp_must ⟨by omega,by omega,hs.some hlt⟩ ?_
   have hx:l[0]?=some l[0]:=List.getElem?_eq_getElem (by omega)
   refine read1 (.int .i64 l[0].n) rfl (List.mem_cons_self) hlt (hs.some hlt) hx (f:=1) rfl rfl ?_
   refine meet (.bool (p 0 l[0].n)) hg (fun β ρ w' vs hM hR=>?_) ?_
   ·obtain rfl:=Rels.vals_eq (l:=[.int .i64 0,.int .i64 l[0].n]++cs) hR
    exact hp 0 _ w' hM.below hlt
   ·refine wp_br (fun h2=>?_) (fun h2=>?_)
    ·refine wp_back fun β ρ w' hM=>⟨?_,hM.below⟩
     rw [hsr,srch_drop p l 0 0 _ hx,h2]
     rfl
    ·refine wp_must ⟨by omega,by omega⟩ ?_
     refine wp_end ⟨rfl,1,⟨hlt,?_⟩,?_,?_⟩
     ·rw [hsr,srch_drop p l 0 0 _ hx,h2];rfl
     ·exact ⟨by repeat' first | exact trivial | refine ⟨.inl rfl,?_⟩ | refine ⟨.inr rfl,?_⟩,⟨trivial,trivial,fun _ h=>h⟩,rfl⟩
     ·omega
  ·refine wp_back fun β ρ w' hM=>⟨?_,hM.below⟩
   have:0=n:=by simp at h1;omega
   rw [hsr,List.drop_eq_nil_of_le (by omega)]
   rfl
theorem placeOf1 (k v n:Int) (q:Addr) (w:World) (hq:At w (some q) [.int .i64 n]):Calls Tryz.prog 205 (List.toArray [.int .i64 k,.int .i64 v,.pointer (some q)]) w fun e w'=>e=.returned (.bool (v==n))∧Below w.heap.size w w':=by
 refine calls_of_exec env_ok Tryz.func205 rfl [] (by kernel_rfl) [rowF (some q) [.int .i64 n]] (at1 hq) ?_
 refine readC (.int .i64 n) rfl (List.mem_cons_self) (j:=0) rfl (by unfold Addr.add;simp) ?_
 exact wp_back fun β ρ w' hM=>⟨rfl,hM.below⟩
theorem placeAbove1 (k v n:Int) (q:Addr) (w:World) (hq:At w (some q) [.int .i64 n]):Calls Tryz.prog 206 (List.toArray [.int .i64 k,.int .i64 v,.pointer (some q)]) w fun e w'=>e=.returned (.bool (decide (v>n)))∧Below w.heap.size w w':=by
 refine calls_of_exec env_ok Tryz.func206 rfl [] (by kernel_rfl) [rowF (some q) [.int .i64 n]] (at1 hq) ?_
 refine readC (.int .i64 n) rfl (List.mem_cons_self) (j:=0) rfl (by unfold Addr.add;simp) ?_
 exact wp_back fun β ρ w' hM=>⟨rfl,hM.below⟩
theorem placeOf (l:List Tx) (a:Option Addr) (n c:Nat) (v:Int) (w:World) (hs:Sl a n c) (hn:n=l.length) (hrow:At w (pt a n) (cellsL l)) :
  Calls Tryz.prog 169 (List.toArray [.slice a n c,.int .i64 v]) w fun e w'=>e=.returned (.int .i64 (srch (fun _ m=>m==v) l 0))∧Below w.heap.size w w':=by
 refine calls_of_exec env_ok Tryz.func169 rfl [] (by kernel_rfl) [rowF (pt a n) (cellsL l)] (at1 hrow) ?_
 refine meet (.int .i64 (srch (fun _ m=>m==v) l 0)) (by kernel_rfl) (fun β ρ w' vs hM hR=>?_) ?_
 ·obtain ⟨y1,y2,rfl,h1,h2⟩:=Rels.two hR
  obtain rfl:=h1
  obtain ⟨g,hg,rfl⟩:=Rel.fn1 h2
  refine search l a n c _ [.pointer (some ⟨g,0,none⟩)] _ w' hs hn (hM.at_ (List.mem_cons_self)) (by kernel_rfl) fun k m w2 hb hk=>?_
  exact placeOf1 _ m v _ w2 ((hM.box (b:=0) (l:=[.int .i64 v]) rfl hg).later hb)
 ·exact wp_back fun β ρ w' hM=>⟨rfl,hM.below⟩
theorem placeAbove (l:List Tx) (a:Option Addr) (n c:Nat) (v:Int) (w:World) (hs:Sl a n c) (hn:n=l.length) (hrow:At w (pt a n) (cellsL l)) :
  Calls Tryz.prog 170 (List.toArray [.slice a n c,.int .i64 v]) w fun e w'=>e=.returned (.int .i64 (srch (fun _ m=>decide (m>v)) l 0))∧Below w.heap.size w w':=by
 refine calls_of_exec env_ok Tryz.func170 rfl [] (by kernel_rfl) [rowF (pt a n) (cellsL l)] (at1 hrow) ?_
 refine meet (.int .i64 (srch (fun _ m=>decide (m>v)) l 0)) (by kernel_rfl) (fun β ρ w' vs hM hR=>?_) ?_
 ·obtain ⟨y1,y2,rfl,h1,h2⟩:=Rels.two hR
  obtain rfl:=h1
  obtain ⟨g,hg,rfl⟩:=Rel.fn1 h2
  refine search l a n c _ [.pointer (some ⟨g,0,none⟩)] _ w' hs hn (hM.at_ (List.mem_cons_self)) (by kernel_rfl) fun k m w2 hb hk=>?_
  exact placeAbove1 _ m v _ w2 ((hM.box (b:=0) (l:=[.int .i64 v]) rfl hg).later hb)
 ·exact wp_back fun β ρ w' hM=>⟨rfl,hM.below⟩
end Go.Proofs.YtdbjakibneeeiaaGreatDoor.queue
namespace Go.Proofs.YtdbjakibneeeiaaGreatDoor.queue
open Go.RowKit Sx txn
def tx0:Tx:=⟨0,0,0,0,0,ByteArray.empty⟩
def findV (l:List Tx) (v:Int):Tx×Bool:=match l[srch (fun _ m=>m==v) l 0]? with | some x=>(x,true) | none=>(tx0,false)
theorem srch_le (p:Nat→Int→Bool):∀(l:List Tx) (k:Nat),k≤srch p l k∧srch p l k≤k+l.length
 | [],k=>⟨Nat.le_refl _,Nat.le_refl _⟩
 | x::l,k=>by
  simp only [srch,List.length_cons]
  cases p k x.n with
  | true=>simp
  | false=>have:=srch_le p l (k+1);simp only [cond_false];omega
theorem find (s b:Int) (l:List Tx) (a:Option Addr) (n c:Nat) (v:Int) (w:World) (hs:Sl a n c) (hn:n=l.length) (hrow:At w (pt a n) (cellsL l)) :
  Calls Tryz.prog 139 (List.toArray [.agg #[.int .i64 s,.int .i64 b,.slice a n c],.int .i64 v]) w fun e w'=>e=.returned (.tuple #[(findV l v).1.val,.bool (findV l v).2])∧Below w.heap.size w w':=by
 have hle:=(srch_le (fun _ m=>m==v) l 0).2
 have hn63:=hs.le
 have hf:findV l v=match l[srch (fun _ m=>m==v) l 0]? with | some x=>(x,true) | none=>(tx0,false):=rfl
 refine calls_of_exec env_ok Tryz.func139 rfl [] (by kernel_rfl) [rowF (pt a n) (cellsL l)] (at1 hrow) ?_
 refine meet (.int .i64 (srch (fun _ m=>m==v) l 0)) (by kernel_rfl) (fun β ρ w' vs hM hR=>?_) ?_
 ·obtain rfl:=Rels.vals_eq (l:=[.slice a n c,.int .i64 v]) hR
  exact placeOf l a n c v w' hs hn (hM.at_ (List.mem_cons_self))
 ·refine wp_br (fun h1=>?_) (fun h1=>?_)
  ·refine wp_back fun β ρ w' hM=>⟨?_,hM.below⟩
   rw [hf,List.getElem?_eq_none (by simp at h1;omega)]
   rfl
  ·have hlt:srch (fun _ m=>m==v) l 0<n:=by simp at h1;omega
   refine wp_must ⟨by omega,by omega,hs.some hlt⟩ ?_
   have hx:l[srch (fun _ m=>m==v) l 0]?=some l[srch (fun _ m=>m==v) l 0]:=List.getElem?_eq_getElem (by omega)
   refine readX (l:=l) (k:=srch (fun _ m=>m==v) l 0) rfl (List.mem_cons_self) hlt (hs.some hlt) hx rfl ?_
   refine wp_back fun β ρ w' hM=>⟨?_,hM.below⟩
   rw [hf,hx]
   rfl
end Go.Proofs.YtdbjakibneeeiaaGreatDoor.queue
namespace Go.Proofs.YtdbjakibneeeiaaGreatDoor.rz
open Go.RowKit
open Go.RowKit Go.ChangeShapes Go.WideShapes
def raised (t p:Int):Int:=if t+1<(t*(100+p)+99) / 100 then (t*(100+p)+99) / 100 else t+1
def RaiseIn (t p:Int):Prop:=0≤t∧t≤1099511627776∧0≤p∧p≤100
instance (t p:Int):Decidable (RaiseIn t p):=by unfold RaiseIn;exact inferInstance
def RaiseOk (t p:Int):Prop:=RaiseIn t p∧raised t p≤1099511627776
instance (t p:Int):Decidable (RaiseOk t p):=by unfold RaiseOk;exact inferInstance
end Go.Proofs.YtdbjakibneeeiaaGreatDoor.rz

