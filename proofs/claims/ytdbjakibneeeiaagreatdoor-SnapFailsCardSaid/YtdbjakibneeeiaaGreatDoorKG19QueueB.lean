/- Layer 5 (queue), by contract: where a nonce stands. -/
import Derived.Test.YtdbjakibneeeiaaGreatDoorKRow
import Derived.Test.YtdbjakibneeeiaaGreatDoorChecked
import Derived.WalkKit
import Derived.ProofKit
import Derived.WalkLawsBesides
import Derived.Lib.Hide
set_option linter.all false
set_option maxHeartbeats 4000000
set_option maxRecDepth 100000
namespace Go.Proofs.YtdbjakibneeeiaaGreatDoor.queue
open Go.RowKit Sx txn
def bZ (p:Nat→Int→Bool):List Tx→Nat→Nat
 | [],k=>k
 | x::l,k=>bif p k x.n then k else bZ p l (k+1)
def gR (p:Nat→Int→Bool):∀(l:List Tx) (k:Nat) (i:Nat) (x:Tx),l[i]?=some x→bZ p (l.drop i) k=bif p k x.n then k else bZ p (l.drop (i+1)) (k+1)
 | [],k,i,x,h=>by simp at h
 | y::l,k,0,x,h=>by simp at h;subst h;rfl
 | y::l,k,i+1,x,h=>by simpa using gR p l k i x (by simpa using h)
def search (l:List Tx) (a:Option Addr) (n c:Nat) (g:FuncId) (cs:List Value) (p:Nat→Int→Bool) (w:World) (hs:Sl a n c) (hn:n=l.length) (hrow:At w (pt a n) (ah l)) (hg:aP Tryz.prog g=true)
  (hp:∀(k:Nat) (v:Int) (w':World),Below w.heap.size w w'→k<n→Calls Tryz.prog g (List.toArray ([.int .i64 k,.int .i64 v]++cs)) w' fun e w''=>e=.returned (.bool (p k v))∧Below w'.heap.size w' w'') :
  Calls Tryz.prog 204 (List.toArray [.slice a n c,.func (.func g) #[] cs.toArray]) w fun e w'=>e=.returned (.int .i64 (bZ p l 0))∧Below w.heap.size w w':=by
 refine au aq Tryz.func204 rfl [] (by kernel_rfl) [ay (pt a n) (ah l)] (ru hrow) ?_
 have hn63:=hs.le
 refine AB aq [] 0 rfl (by kernel_rfl) (by kernel_rfl) (fun k:Nat=>k≤n∧bZ p l 0=bZ p (l.drop k) k) (fun k=>(⟨[],[],[ay (pt a n) (ah l)]⟩,[.v (.slice a n c),.v (.func (.func g) #[] cs.toArray),.any,.any,.v (.int .i64 0),.v (.int .i64 k),.any,.any,.any,.any,.any,.any,.any,.any,.any,.any,.any,.any,.any,.any,.any,.any,.any])) (fun k=>n - k) (n+1) ?_ ?_
 rotate_left
 ·rintro k ⟨hk,hsr⟩
  refine Ck (fun h1=>?_) (fun h1=>?_)
  ·have hlt:k<n:=by simp at h1;omega
   refine ai ⟨by omega,by omega,hs.some hlt⟩ ?_
   have hx:l[k]?=some l[k]:=List.getElem?_eq_getElem (by omega)
   refine BN (.int .i64 l[k].n) rfl (List.mem_cons_self) hlt (hs.some hlt) hx (f:=1) rfl rfl ?_
   refine meet (.bool (p k l[k].n)) hg (fun β ρ w' vs hM hR=>?_) ?_
   ·obtain rfl:=ak.iX (l:=[.int .i64 k,.int .i64 l[k].n]++cs) hR
    exact hp k _ w' hM.below hlt
   ·refine bk (fun h2=>?_) (fun h2=>?_)
    ·refine av fun β ρ w' hM=>⟨?_,hM.below⟩
     rw [hsr,gR p l k k _ hx,h2]
     rfl
    ·refine ai ⟨by omega,by omega⟩ ?_
     refine aO ⟨rfl,k+1,⟨hlt,?_⟩,?_,?_⟩
     ·rw [hsr,gR p l k k _ hx,h2];rfl
     ·exact ⟨by repeat' first | exact trivial | refine ⟨.inl rfl,?_⟩ | refine ⟨.inr rfl,?_⟩,⟨trivial,trivial,fun _ h=>h⟩,rfl⟩
     ·omega
  ·refine av fun β ρ w' hM=>⟨?_,hM.below⟩
   have:k=n:=by simp at h1;omega
   rw [hsr,List.drop_eq_nil_of_le (by omega)]
   rfl
 ·have hk:0≤n:=Nat.zero_le _
  have hsr:bZ p l 0=bZ p (l.drop 0) 0:=rfl
  refine Ck (fun h1=>?_) (fun h1=>?_)
  ·have hlt:0<n:=by simp at h1;omega
   refine ai ⟨by omega,by omega,hs.some hlt⟩ ?_
   have hx:l[0]?=some l[0]:=List.getElem?_eq_getElem (by omega)
   refine BN (.int .i64 l[0].n) rfl (List.mem_cons_self) hlt (hs.some hlt) hx (f:=1) rfl rfl ?_
   refine meet (.bool (p 0 l[0].n)) hg (fun β ρ w' vs hM hR=>?_) ?_
   ·obtain rfl:=ak.iX (l:=[.int .i64 0,.int .i64 l[0].n]++cs) hR
    exact hp 0 _ w' hM.below hlt
   ·refine bk (fun h2=>?_) (fun h2=>?_)
    ·refine av fun β ρ w' hM=>⟨?_,hM.below⟩
     rw [hsr,gR p l 0 0 _ hx,h2]
     rfl
    ·refine ai ⟨by omega,by omega⟩ ?_
     refine aO ⟨rfl,1,⟨hlt,?_⟩,?_,?_⟩
     ·rw [hsr,gR p l 0 0 _ hx,h2];rfl
     ·exact ⟨by repeat' first | exact trivial | refine ⟨.inl rfl,?_⟩ | refine ⟨.inr rfl,?_⟩,⟨trivial,trivial,fun _ h=>h⟩,rfl⟩
     ·omega
  ·refine av fun β ρ w' hM=>⟨?_,hM.below⟩
   have:0=n:=by simp at h1;omega
   rw [hsr,List.drop_eq_nil_of_le (by omega)]
   rfl
def Gp (k v n:Int) (q:Addr) (w:World) (hq:At w (some q) [.int .i64 n]):Calls Tryz.prog 205 (List.toArray [.int .i64 k,.int .i64 v,.pointer (some q)]) w fun e w'=>e=.returned (.bool (v==n))∧Below w.heap.size w w':=by
 refine au aq Tryz.func205 rfl [] (by kernel_rfl) [ay (some q) [.int .i64 n]] (ru hq) ?_
 refine oq (.int .i64 n) rfl (List.mem_cons_self) (j:=0) rfl (by unfold Addr.add;simp) ?_
 exact av fun β ρ w' hM=>⟨rfl,hM.below⟩
def yx (k v n:Int) (q:Addr) (w:World) (hq:At w (some q) [.int .i64 n]):Calls Tryz.prog 206 (List.toArray [.int .i64 k,.int .i64 v,.pointer (some q)]) w fun e w'=>e=.returned (.bool (decide (v>n)))∧Below w.heap.size w w':=by
 refine au aq Tryz.func206 rfl [] (by kernel_rfl) [ay (some q) [.int .i64 n]] (ru hq) ?_
 refine oq (.int .i64 n) rfl (List.mem_cons_self) (j:=0) rfl (by unfold Addr.add;simp) ?_
 exact av fun β ρ w' hM=>⟨rfl,hM.below⟩
def placeOf (l:List Tx) (a:Option Addr) (n c:Nat) (v:Int) (w:World) (hs:Sl a n c) (hn:n=l.length) (hrow:At w (pt a n) (ah l)) :
  Calls Tryz.prog 169 (List.toArray [.slice a n c,.int .i64 v]) w fun e w'=>e=.returned (.int .i64 (bZ (fun _ m=>m==v) l 0))∧Below w.heap.size w w':=by
 refine au aq Tryz.func169 rfl [] (by kernel_rfl) [ay (pt a n) (ah l)] (ru hrow) ?_
 refine meet (.int .i64 (bZ (fun _ m=>m==v) l 0)) (by kernel_rfl) (fun β ρ w' vs hM hR=>?_) ?_
 ·obtain ⟨y1,y2,rfl,h1,h2⟩:=ak.two hR
  obtain rfl:=h1
  obtain ⟨g,hg,rfl⟩:=Rel.Qj h2
  refine search l a n c _ [.pointer (some ⟨g,0,none⟩)] _ w' hs hn (hM.at_ (List.mem_cons_self)) (by kernel_rfl) fun k m w2 hb hk=>?_
  exact Gp _ m v _ w2 ((hM.box (b:=0) (l:=[.int .i64 v]) rfl hg).later hb)
 ·exact av fun β ρ w' hM=>⟨rfl,hM.below⟩
def AL (l:List Tx) (a:Option Addr) (n c:Nat) (v:Int) (w:World) (hs:Sl a n c) (hn:n=l.length) (hrow:At w (pt a n) (ah l)) :
  Calls Tryz.prog 170 (List.toArray [.slice a n c,.int .i64 v]) w fun e w'=>e=.returned (.int .i64 (bZ (fun _ m=>decide (m>v)) l 0))∧Below w.heap.size w w':=by
 refine au aq Tryz.func170 rfl [] (by kernel_rfl) [ay (pt a n) (ah l)] (ru hrow) ?_
 refine meet (.int .i64 (bZ (fun _ m=>decide (m>v)) l 0)) (by kernel_rfl) (fun β ρ w' vs hM hR=>?_) ?_
 ·obtain ⟨y1,y2,rfl,h1,h2⟩:=ak.two hR
  obtain rfl:=h1
  obtain ⟨g,hg,rfl⟩:=Rel.Qj h2
  refine search l a n c _ [.pointer (some ⟨g,0,none⟩)] _ w' hs hn (hM.at_ (List.mem_cons_self)) (by kernel_rfl) fun k m w2 hb hk=>?_
  exact yx _ m v _ w2 ((hM.box (b:=0) (l:=[.int .i64 v]) rfl hg).later hb)
 ·exact av fun β ρ w' hM=>⟨rfl,hM.below⟩
end Go.Proofs.YtdbjakibneeeiaaGreatDoor.queue
namespace Go.Proofs.YtdbjakibneeeiaaGreatDoor.queue
open Go.RowKit Sx txn
def Wn:Tx:=⟨0,0,0,0,0,ByteArray.empty⟩
def qF (l:List Tx) (v:Int):Tx×Bool:=match l[bZ (fun _ m=>m==v) l 0]? with | some x=>(x,true) | none=>(Wn,false)
def om (p:Nat→Int→Bool):∀(l:List Tx) (k:Nat),k≤bZ p l k∧bZ p l k≤k+l.length
 | [],k=>⟨Nat.le_refl _,Nat.le_refl _⟩
 | x::l,k=>by
  simp only [bZ,List.length_cons]
  cases p k x.n with
  | true=>simp
  | false=>have:=om p l (k+1);simp only [cond_false];omega
def find (s b:Int) (l:List Tx) (a:Option Addr) (n c:Nat) (v:Int) (w:World) (hs:Sl a n c) (hn:n=l.length) (hrow:At w (pt a n) (ah l)) :
  Calls Tryz.prog 139 (List.toArray [.agg #[.int .i64 s,.int .i64 b,.slice a n c],.int .i64 v]) w fun e w'=>e=.returned (.tuple #[(qF l v).1.val,.bool (qF l v).2])∧Below w.heap.size w w':=by
 have hle:=(om (fun _ m=>m==v) l 0).2
 have hn63:=hs.le
 have hf:qF l v=match l[bZ (fun _ m=>m==v) l 0]? with | some x=>(x,true) | none=>(Wn,false):=rfl
 refine au aq Tryz.func139 rfl [] (by kernel_rfl) [ay (pt a n) (ah l)] (ru hrow) ?_
 refine meet (.int .i64 (bZ (fun _ m=>m==v) l 0)) (by kernel_rfl) (fun β ρ w' vs hM hR=>?_) ?_
 ·obtain rfl:=ak.iX (l:=[.slice a n c,.int .i64 v]) hR
  exact placeOf l a n c v w' hs hn (hM.at_ (List.mem_cons_self))
 ·refine bk (fun h1=>?_) (fun h1=>?_)
  ·refine av fun β ρ w' hM=>⟨?_,hM.below⟩
   rw [hf,List.getElem?_eq_none (by simp at h1;omega)]
   rfl
  ·have hlt:bZ (fun _ m=>m==v) l 0<n:=by simp at h1;omega
   refine ai ⟨by omega,by omega,hs.some hlt⟩ ?_
   have hx:l[bZ (fun _ m=>m==v) l 0]?=some l[bZ (fun _ m=>m==v) l 0]:=List.getElem?_eq_getElem (by omega)
   refine mV (l:=l) (k:=bZ (fun _ m=>m==v) l 0) rfl (List.mem_cons_self) hlt (hs.some hlt) hx rfl ?_
   refine av fun β ρ w' hM=>⟨?_,hM.below⟩
   rw [hf,hx]
   rfl
end Go.Proofs.YtdbjakibneeeiaaGreatDoor.queue
namespace Go.Proofs.YtdbjakibneeeiaaGreatDoor.rz
open Go.RowKit
open Go.RowKit Go.ChangeShapes Go.WideShapes
def raised (t p:Int):Int:=if t+1<(t*(100+p)+99) / 100 then (t*(100+p)+99) / 100 else t+1
def xH (t p:Int):Prop:=0≤t∧t≤1099511627776∧0≤p∧p≤100
instance (t p:Int):Decidable (xH t p):=by unfold xH;exact inferInstance
def CC (t p:Int):Prop:=xH t p∧raised t p≤1099511627776
instance (t p:Int):Decidable (CC t p):=by unfold CC;exact inferInstance
end Go.Proofs.YtdbjakibneeeiaaGreatDoor.rz

