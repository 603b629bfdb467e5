/- Layer 5 (queue), by contract: whether an account may be, and what it has. -/
import Derived.Test.YtfhgkkcpkcjbmaaGreatDoorKQueue
set_option linter.all false
set_option maxHeartbeats 4000000
set_option maxRecDepth 100000
namespace Go.Proofs.YtfhgkkcpkcjbmaaGreatDoor.queue
open Go.RowKit Sx txn
def tx0:Tx:=⟨0,0,0,0,0,ByteArray.empty⟩
def findV (l:List Tx) (v:Int):Tx×Bool:=match l[srch (fun _ m=>m==v) l 0]? with | some x=>(x,true) | none=>(tx0,false)
theorem srch_le (p:Nat→Int→Bool):∀(l:List Tx) (k:Nat),k≤srch p l k∧srch p l k≤k+l.length
 | [],k=>⟨Nat.le_refl _,Nat.le_refl _⟩
 | x::l,k=>by
  simp only [srch,List.length_cons]
  cases p k x.n with
  | true=>simp
  | false=>have:=srch_le p l (k+1);simp only [cond_false];omega
theorem find (s b:Int) (l:List Tx) (a:Option Addr) (n c:Nat) (v:Int) (w:World) (hs:Sl a n c) (hn:n=l.length) (hrow:At w (pt a n) (cellsL l)) :
  Calls Tryz.prog 165 (List.toArray [.agg #[.int .i64 s,.int .i64 b,.slice a n c],.int .i64 v]) w fun e w'=>e=.returned (.tuple #[(findV l v).1.val,.bool (findV l v).2])∧Below w.heap.size w w':=by
 have hle:=(srch_le (fun _ m=>m==v) l 0).2
 have hn63:=hs.le
 have hf:findV l v=match l[srch (fun _ m=>m==v) l 0]? with | some x=>(x,true) | none=>(tx0,false):=rfl
 refine calls_of_exec env_ok Tryz.func165 rfl [] (by kernel_rfl) [rowF (pt a n) (cellsL l)] (at1 hrow) ?_
 refine meet (.int .i64 (srch (fun _ m=>m==v) l 0)) (by kernel_rfl) (fun β ρ w' vs hM hR=>?_) ?_
 ·obtain rfl:=Rels.vals_eq (l:=[.slice a n c,.int .i64 v]) hR
  exact placeOf l a n c v w' hs hn (hM.at_ (List.mem_cons_self))
 ·refine wp_br (fun h1=>?_) (fun h1=>?_)
  ·refine wp_back fun β ρ w' hM=>⟨?_,hM.below⟩
   rw [hf,List.getElem?_eq_none (by simp at h1;omega)]
   rfl
  ·have hlt:srch (fun _ m=>m==v) l 0<n:=by simp at h1;omega
   refine wp_must ⟨by omega,by omega,hs.some hlt⟩ ?_
   have hx:l[srch (fun _ m=>m==v) l 0]?=some l[srch (fun _ m=>m==v) l 0]:=List.getElem?_eq_getElem (by omega)
   refine readX (l:=l) (k:=srch (fun _ m=>m==v) l 0) rfl (List.mem_cons_self) hlt (hs.some hlt) hx rfl ?_
   refine wp_back fun β ρ w' hM=>⟨?_,hM.below⟩
   rw [hf,hx]
   rfl
def risesV (s:Int):Int→List Tx→Bool
 | _,[]=>true
 | b,x::l=>x.ok&&(x.s==s) && !(decide (x.n<b))&&risesV s (x.n+1) l
theorem risesV_drop (s:Int) (l:List Tx) (k:Nat) (x:Tx) (b:Int) (h:l[k]?=some x):risesV s b (l.drop k)=(x.ok&&(x.s==s) && !(decide (x.n<b))&&risesV s (x.n+1) (l.drop (k+1))):=by
 obtain ⟨hk,rfl⟩:=List.getElem?_eq_some_iff.1 h
 rw [List.drop_eq_getElem_cons hk]
 rfl
theorem ret_bool' {a b:Bool} (h:a=b):Ending.returned (tup [.bool a])=.returned (.bool b):=by rw [h];rfl
theorem rises (s b:Int) (l:List Tx) (a:Option Addr) (n c:Nat) (w:World) (hM:Most w) (hs:Sl a n c) (hn:n=l.length) (hrow:At w (pt a n) (cellsL l)) :
  Calls Tryz.prog 219 (List.toArray [.agg #[.int .i64 s,.int .i64 b,.slice a n c]]) w fun e w'=>e=.returned (.bool (risesV s b l))∧Below w.heap.size w w':=by
 have hn63:=hs.le
 refine calls_of_exec env_ok Tryz.func219 rfl [] (by kernel_rfl) [rowF (pt a n) (cellsL l)] (at1 hrow) ?_
 refine loop_rule env_ok [] (by kernel_rfl) (fun i:Nat×Int=>i.1≤n∧risesV s b l=risesV s i.2 (l.drop i.1)) (fun i=>(⟨[some ([.v (.int .i64 s),.v (.int .i64 b),.v (.slice a n c)],47)],[],[rowF (pt a n) (cellsL l)]⟩,[.any,.p 0 0,.v (.bool false),.v (.int .i64 i.2),.any,.any,.any,.any,.any,.v (.slice a n c),.v (.int .i64 n),.v (.int .i64 i.1),.any,.any,.any,.any,.any,.any,.any,.any,.any,.any,.any,.any,.any,.any,.any,.any,.any,.any,.any,.any,.any,.any,.any])) (fun i=>n - i.1) (0,b) ⟨Nat.zero_le _,rfl⟩ ⟨by repeat' first | exact trivial | refine ⟨.inl rfl,?_⟩ | refine ⟨.inr rfl,?_⟩,⟨by repeat' first | exact trivial | refine ⟨.inl rfl,?_⟩ | refine ⟨.inr rfl,?_⟩,by repeat' first | exact trivial | refine ⟨.inl rfl,?_⟩ | refine ⟨.inr rfl,?_⟩,fun _ h=>h⟩,rfl⟩ ?_
 rintro ⟨k,q⟩ ⟨hk,hr⟩
 simp only [] at hk hr
 refine wp_br (fun h1=>?_) (fun h1=>?_)
 ·have hlt:k<n:=by simp at h1;omega
  refine wp_must ⟨by omega,by omega,hs.some hlt⟩ ?_
  have hx:l[k]?=some l[k]:=List.getElem?_eq_getElem (by omega)
  generalize l[k]=x at hx
  refine readX (l:=l) (k:=k) rfl (List.mem_cons_self) hlt (hs.some hlt) hx rfl ?_
  have hr:=hr.trans (risesV_drop s l k x q hx)
  refine meet (.bool x.ok) (by kernel_rfl) (fun β ρ w' vs hM' hR=>?_) ?_
  ·obtain rfl:=Rels.vals_eq (l:=[x.val]) hR
   exact check x w' (hM.later hM'.below)
  ·refine wp_g0 (fun h2=>?_) (fun h2=>?_)
   ·refine wp_g0 (fun h3=>?_) (fun h3=>?_)
    ·refine wp_br (fun h4=>?_) (fun h4=>?_)
     ·exact wp_back fun β ρ w' hM'=>⟨ret_bool' (by rw [hr];simp at h4;simp [h4]),hM'.below⟩
     ·have hok:x.ok=true:=by simpa using h2
      have hb:=hok
      simp only [Tx.ok,decide_eq_true_eq] at hb
      refine wp_must ⟨by omega,by omega⟩ ?_
      refine wp_must ⟨by omega,by omega⟩ ?_
      refine wp_end ⟨(k+1,x.n+1),⟨hlt,?_⟩,⟨by repeat' first | exact trivial | refine ⟨.inl rfl,?_⟩ | refine ⟨.inr rfl,?_⟩,⟨by repeat' first | exact trivial | refine ⟨.inl rfl,?_⟩ | refine ⟨.inr rfl,?_⟩,by repeat' first | exact trivial | refine ⟨.inl rfl,?_⟩ | refine ⟨.inr rfl,?_⟩,fun _ h=>h⟩,rfl⟩,by show n - (k+1)<n - k;omega⟩
      rw [hr]
      simp at h3 h4
      simp [hok,h3,h4]
    ·exact wp_back fun β ρ w' hM'=>⟨ret_bool' (by rw [hr];simp at h3;simp [h3]),hM'.below⟩
   ·exact wp_back fun β ρ w' hM'=>⟨ret_bool' (by rw [hr];simp at h2;simp [h2]),hM'.below⟩
 ·refine wp_back fun β ρ w' hM'=>⟨ret_bool' ?_,hM'.below⟩
  have:k=n:=by simp at h1;omega
  rw [hr,List.drop_eq_nil_of_le (by omega)]
  rfl
def inB (n lo hi:Int):Bool:=decide (lo≤n)&&decide (n≤hi)
def checkV (s b per:Int) (l:List Tx):Bool:=inB s 0 255&&inB b 0 4294967295&&inB per 1 16&&decide ((l.length:Int)≤per)&&risesV s b l
theorem check_ (s b per:Int) (l:List Tx) (a:Option Addr) (n c:Nat) (w:World) (hM:Most w) (hs:Sl a n c) (hn:n=l.length) (hrow:At w (pt a n) (cellsL l)) :
  Calls Tryz.prog 172 (List.toArray [.agg #[.int .i64 s,.int .i64 b,.slice a n c],.int .i64 per]) w fun e w'=>e=.returned (.bool (checkV s b per l))∧Below w.heap.size w w':=by
 have hcv:checkV s b per l=(inB s 0 255&&inB b 0 4294967295&&inB per 1 16&&decide ((n:Int)≤per)&&risesV s b l):=by rw [hn];rfl
 refine calls_of_exec env_ok Tryz.func172 rfl [] (by kernel_rfl) [rowF (pt a n) (cellsL l)] (at1 hrow) ?_
 have bad:∀{h:checkV s b per l=false},(Ending.returned (tup [Value.bool false])=.returned (.bool (checkV s b per l))):=fun {h}=>by rw [h];rfl
 refine meet (.bool (inB s 0 255)) (by kernel_rfl) (fun β ρ w' vs hM' hR=>?_) ?_
 ·obtain rfl:=Rels.vals_eq (l:=[.int .i64 s,.int .i64 0,.int .i64 255]) hR
  exact within s 0 255 w'
 refine wp_g0 (fun h1=>?_) (fun h1=>?_)
 ·refine meet (.bool (inB b 0 4294967295)) (by kernel_rfl) (fun β ρ w' vs hM' hR=>?_) ?_
  ·obtain rfl:=Rels.vals_eq (l:=[.int .i64 b,.int .i64 0,.int .i64 4294967295]) hR
   exact within b 0 4294967295 w'
  refine wp_g0 (fun h2=>?_) (fun h2=>?_)
  ·refine meet (.bool (inB per 1 16)) (by kernel_rfl) (fun β ρ w' vs hM' hR=>?_) ?_
   ·obtain rfl:=Rels.vals_eq (l:=[.int .i64 per,.int .i64 1,.int .i64 16]) hR
    exact within per 1 16 w'
   refine wp_br (fun h3=>?_) (fun h3=>?_)
   ·exact wp_back fun β ρ w' hM'=>⟨bad (h:=by rw [hcv];simp at h3;simp [h3]),hM'.below⟩
   ·refine wp_g1 (fun h4=>?_) (fun h4=>?_)
    ·refine meet (.bool (risesV s b l)) (by kernel_rfl) (fun β ρ w' vs hM' hR=>?_) ?_
     ·obtain rfl:=Rels.vals_eq (l:=[.agg #[.int .i64 s,.int .i64 b,.slice a n c]]) hR
      exact rises s b l a n c w' (hM.later hM'.below) hs hn (hM'.at_ (List.mem_cons_self))
     ·exact wp_back fun β ρ w' hM'=>⟨ret_bool' (by rw [hcv];simp at h1 h2 h3 h4;simp [h1,h2,h3,h4]),hM'.below⟩
    ·exact wp_back fun β ρ w' hM'=>⟨bad (h:=by rw [hcv];simp at h4;simp;intros;omega),hM'.below⟩
  ·exact wp_back fun β ρ w' hM'=>⟨bad (h:=by rw [hcv];simp at h2;simp [h2]),hM'.below⟩
 ·exact wp_back fun β ρ w' hM'=>⟨bad (h:=by rw [hcv];simp at h1;simp [h1]),hM'.below⟩
def slotsL (l:List Tx):Int:=(l.map slotV).sum
theorem slotV_bd (x:Tx):0≤slotV x∧slotV x≤13:=by
 unfold slotV
 split
 ·unfold sat.slotsV sat.slotsOf
  split
  ·split <;> omega
  ·omega
 ·omega
theorem slotsL_take (l:List Tx) (k:Nat) (x:Tx) (h:l[k]?=some x):slotsL (l.take (k+1))=slotsL (l.take k)+slotV x:=by
 obtain ⟨hk,rfl⟩:=List.getElem?_eq_some_iff.1 h
 unfold slotsL
 rw [List.take_succ_eq_append_getElem hk,List.map_append,List.sum_append]
 simp
theorem slotsL_bd (l:List Tx):0≤slotsL l∧slotsL l≤13*l.length:=by
 induction l with
 | nil=>simp [slotsL]
 | cons x l ih=>
  have:=slotV_bd x
  simp only [slotsL,List.map_cons,List.sum_cons,List.length_cons] at ih ⊢
  omega
theorem slots_ (s b:Int) (l:List Tx) (a:Option Addr) (n c:Nat) (w:World) (hM:Most w) (hs:Sl a n c) (hn:n=l.length) (hrow:At w (pt a n) (cellsL l)) (hd:∀x∈l,x.d.size≤maxLen) (hfew:n≤140737488355328) :
  Calls Tryz.prog 210 (List.toArray [.agg #[.int .i64 s,.int .i64 b,.slice a n c]]) w fun e w'=>e=.returned (.int .i64 (slotsL l))∧Below w.heap.size w w':=by
 refine calls_of_exec env_ok Tryz.func210 rfl [] (by kernel_rfl) [rowF (pt a n) (cellsL l)] (at1 hrow) ?_
 refine loop_rule env_ok [] (by kernel_rfl) (fun k:Nat=>k≤n) (fun k=>(⟨[some ([.v (.int .i64 s),.v (.int .i64 b),.v (.slice a n c)],47)],[],[rowF (pt a n) (cellsL l)]⟩,[.any,.p 0 0,.v (.int .i64 0),.v (.int .i64 (slotsL (l.take k))),.any,.any,.any,.v (.slice a n c),.v (.int .i64 n),.v (.int .i64 k),.any,.any,.any,.any,.any,.any,.any,.any,.any])) (fun k=>n - k) 0 (Nat.zero_le _) ⟨by repeat' first | exact trivial | refine ⟨.inl rfl,?_⟩ | refine ⟨.inr rfl,?_⟩,⟨by repeat' first | exact trivial | refine ⟨.inl rfl,?_⟩ | refine ⟨.inr rfl,?_⟩,by repeat' first | exact trivial | refine ⟨.inl rfl,?_⟩ | refine ⟨.inr rfl,?_⟩,fun _ h=>h⟩,rfl⟩ ?_
 intro k hk
 refine wp_br (fun h1=>?_) (fun h1=>?_)
 ·have hlt:k<n:=by simp at h1;omega
  refine wp_must ⟨by omega,by omega,hs.some hlt⟩ ?_
  have hx:l[k]?=some l[k]:=List.getElem?_eq_getElem (by omega)
  have hdx:=hd l[k] (List.mem_of_getElem? hx)
  generalize l[k]=x at hx hdx
  refine readX (l:=l) (k:=k) rfl (List.mem_cons_self) hlt (hs.some hlt) hx rfl ?_
  refine meet (.int .i64 (slotV x)) (by kernel_rfl) (fun β ρ w' vs hM' hR=>?_) ?_
  ·obtain rfl:=Rels.vals_eq (l:=[x.val]) hR
   exact slots x w' (hM.later hM'.below) hdx
  ·have hb:=slotsL_bd (l.take k)
   have hb2:=slotV_bd x
   have hlen:(l.take k).length=k:=by rw [List.length_take];omega
   rw [hlen] at hb
   refine wp_must ⟨by omega,by omega⟩ ?_
   refine wp_must ⟨by omega,by omega⟩ ?_
   refine wp_end ⟨k+1,hlt,⟨by rw [slotsL_take l k x hx];repeat' first | exact trivial | refine ⟨.inl rfl,?_⟩ | refine ⟨.inr rfl,?_⟩,⟨by repeat' first | exact trivial | refine ⟨.inl rfl,?_⟩ | refine ⟨.inr rfl,?_⟩,trivial,fun _ h=>h⟩,rfl⟩,by show n - (k+1)<n - k;omega⟩
 ·refine wp_back fun β ρ w' hM'=>⟨?_,hM'.below⟩
  have:k=n:=by simp at h1;omega
  subst this
  rw [show l.take k=l from List.take_of_length_le (by omega)]
  rfl
end Go.Proofs.YtfhgkkcpkcjbmaaGreatDoor.queue
