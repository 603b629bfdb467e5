/- Layer 5 (queue), by contract: what may be placed. -/
import Derived.Test.YtfhgkkcpkcjbmaaGreatDoorKQueueA
import Derived.Test.YtfhgkkcpkcjbmaaGreatDoorKRaise
set_option linter.all false
set_option maxHeartbeats 4000000
set_option maxRecDepth 100000
namespace Go.Proofs.YtfhgkkcpkcjbmaaGreatDoor.queue
open Go.RowKit Sx txn
def replV (old t:Tx) (bump:Int):Int×Int:=bif !rz.raiseB old.t bump||decide (t.t<rz.raiseV old.t bump) then (0,4) else (slotV t - slotV old,0)
def placeV (s b per:Int) (l:List Tx) (t:Tx) (bump:Int):Int×Int:=
 bif !(checkV s b per l&&t.ok&&(t.s==s)&&inB bump 0 100) then (0,1) else bif decide (t.n<b) then (0,3) else
  bif (findV l t.n).2 then replV (findV l t.n).1 t bump else bif (l.length:Int)==per then (0,5) else (slotV t,0)
theorem ret_two' {a b c d:Int} (h:(a,b)=(c,d)):Ending.returned (tup [.int .i64 a,.int .i64 b])=.returned (.tuple #[.int .i64 c,.int .i64 d]):=by cases h;rfl
theorem replace (old t:Tx) (bump:Int) (w:World) (hM:Most w) (hdo:old.d.size≤maxLen) (hdt:t.d.size≤maxLen) :
  Calls Tryz.prog 208 (List.toArray [old.val,t.val,.int .i64 bump]) w fun e w'=>e=.returned (.tuple #[.int .i64 (replV old t bump).1,.int .i64 (replV old t bump).2])∧Below w.heap.size w w':=by
 have hrv:replV old t bump=bif !rz.raiseB old.t bump||decide (t.t<rz.raiseV old.t bump) then (0,4) else (slotV t - slotV old,0):=rfl
 refine calls_of_exec env_ok Tryz.func208 rfl [(4,(line [0,2,1,3,4,5,6],[]))] (by kernel_rfl) [] (by simp) ?_
 refine meet (.tuple #[.int .i64 (rz.raiseV old.t bump),.bool (rz.raiseB old.t bump)]) (by kernel_rfl) (fun β ρ w' vs hM' hR=>?_) ?_
 ·obtain rfl:=Rels.vals_eq (l:=[.int .i64 old.t,.int .i64 bump]) hR
  exact (rz.raise_any old.t bump w').mono fun e w2 ⟨he,hw⟩=>⟨he,hw▸Below.refl _ _⟩
 have hb1:=slotV_bd t
 have hb2:=slotV_bd old
 refine wp_g0 (fun h1=>?_) (fun h1=>?_)
 ·refine wp_br (fun h2=>?_) (fun h2=>?_)
  ·exact wp_back fun β ρ w' hM'=>⟨ret_two' (by rw [hrv,h2];simp),hM'.below⟩
  ·refine meet (.int .i64 (slotV t)) (by kernel_rfl) (fun β ρ w' vs hM' hR=>?_) ?_
   ·obtain rfl:=Rels.vals_eq (l:=[t.val]) hR
    exact slots t w' (hM.later hM'.below) hdt
   refine meet (.int .i64 (slotV old)) (by kernel_rfl) (fun β ρ w' vs hM' hR=>?_) ?_
   ·obtain rfl:=Rels.vals_eq (l:=[old.val]) hR
    exact slots old w' (hM.later hM'.below) hdo
   refine wp_must ⟨by omega,by omega⟩ ?_
   exact wp_back fun β ρ w' hM'=>⟨ret_two' (by rw [hrv,h1,h2];rfl),hM'.below⟩
 ·exact wp_back fun β ρ w' hM'=>⟨ret_two' (by rw [hrv,h1];rfl),hM'.below⟩
theorem findV_mem (l:List Tx) (v:Int):(findV l v).1∈l∨(findV l v).1=tx0:=by
 unfold findV
 cases h:l[srch (fun _ m=>m==v) l 0]? with
 | none=>exact .inr rfl
 | some x=>exact .inl (List.mem_of_getElem? h)
theorem place (s b per:Int) (l:List Tx) (a:Option Addr) (n c:Nat) (t:Tx) (bump:Int) (w:World) (hM:Most w) (hs:Sl a n c) (hn:n=l.length) (hrow:At w (pt a n) (cellsL l)) (hd:∀x∈l,x.d.size≤maxLen) (hdt:t.d.size≤maxLen) :
  Calls Tryz.prog 163 (List.toArray [.agg #[.int .i64 s,.int .i64 b,.slice a n c],t.val,.int .i64 per,.int .i64 bump]) w fun e w'=>e=.returned (.tuple #[.int .i64 (placeV s b per l t bump).1,.int .i64 (placeV s b per l t bump).2])∧Below w.heap.size w w':=by
 have hpv:placeV s b per l t bump=bif !(checkV s b per l&&t.ok&&(t.s==s)&&inB bump 0 100) then (0,1) else bif decide (t.n<b) then (0,3) else
  bif (findV l t.n).2 then replV (findV l t.n).1 t bump else bif (n:Int)==per then (0,5) else (slotV t,0):=by rw [hn];rfl
 have hfd:(findV l t.n).1.d.size≤maxLen:=by
  rcases findV_mem l t.n with h | h
  ·exact hd _ h
  ·rw [h];simp [tx0,maxLen]
 have hfind:=fun w' hr=>find s b l a n c t.n w' hs hn hr
 generalize findV l t.n=fv at hpv hfd hfind
 obtain ⟨old,is⟩:=fv
 simp only [] at hpv hfd hfind
 refine calls_of_exec env_ok Tryz.func163 rfl [] (by kernel_rfl) [rowF (pt a n) (cellsL l)] (at1 hrow) ?_
 refine meet (.bool (checkV s b per l)) (by kernel_rfl) (fun β ρ w' vs hM' hR=>?_) ?_
 ·obtain rfl:=Rels.vals_eq (l:=[.agg #[.int .i64 s,.int .i64 b,.slice a n c],.int .i64 per]) hR
  exact check_ s b per l a n c w' (hM.later hM'.below) hs hn (hM'.at_ (List.mem_cons_self))
 refine wp_g0 (fun h1=>?_) (fun h1=>?_)
 ·refine meet (.bool t.ok) (by kernel_rfl) (fun β ρ w' vs hM' hR=>?_) ?_
  ·obtain rfl:=Rels.vals_eq (l:=[t.val]) hR
   exact check t w' (hM.later hM'.below)
  refine wp_g0 (fun h2=>?_) (fun h2=>?_)
  ·refine wp_g0 (fun h3=>?_) (fun h3=>?_)
   ·refine meet (.bool (inB bump 0 100)) (by kernel_rfl) (fun β ρ w' vs hM' hR=>?_) ?_
    ·obtain rfl:=Rels.vals_eq (l:=[.int .i64 bump,.int .i64 0,.int .i64 100]) hR
     exact within bump 0 100 w'
    refine wp_br (fun h4=>?_) (fun h4=>?_)
    ·exact wp_back fun β ρ w' hM'=>⟨ret_two' (by rw [hpv,show (checkV s b per l&&t.ok&&(t.s==s)&&inB bump 0 100)=false from by simp at h4;simp [h4]];rfl),hM'.below⟩
    ·have hbase:(checkV s b per l&&t.ok&&(t.s==s)&&inB bump 0 100)=true:=by simp at h1 h2 h3 h4;simp [h1,h2,h3,h4]
     rw [hbase] at hpv
     refine wp_br (fun h5=>?_) (fun h5=>?_)
     ·exact wp_back fun β ρ w' hM'=>⟨ret_two' (by rw [hpv,h5];rfl),hM'.below⟩
     ·refine meet (.tuple #[old.val,.bool is]) (by kernel_rfl) (fun β ρ w' vs hM' hR=>?_) ?_
      ·obtain rfl:=Rels.vals_eq (l:=[.agg #[.int .i64 s,.int .i64 b,.slice a n c],.int .i64 t.n]) hR
       exact hfind w' (hM'.at_ (List.mem_cons_self))
      refine wp_br (fun h6=>?_) (fun h6=>?_)
      ·refine meet (.tuple #[.int .i64 (replV old t bump).1,.int .i64 (replV old t bump).2]) (by kernel_rfl) (fun β ρ w' vs hM' hR=>?_) ?_
       ·obtain rfl:=Rels.vals_eq (l:=[old.val,t.val,.int .i64 bump]) hR
        exact replace old t bump w' (hM.later hM'.below) hfd hdt
       exact wp_back fun β ρ w' hM'=>⟨ret_two' (by rw [hpv,h5,h6];rfl),hM'.below⟩
      ·refine wp_br (fun h7=>?_) (fun h7=>?_)
       ·exact wp_back fun β ρ w' hM'=>⟨ret_two' (by rw [hpv,h5,h6,h7];rfl),hM'.below⟩
       ·refine meet (.int .i64 (slotV t)) (by kernel_rfl) (fun β ρ w' vs hM' hR=>?_) ?_
        ·obtain rfl:=Rels.vals_eq (l:=[t.val]) hR
         exact slots t w' (hM.later hM'.below) hdt
        exact wp_back fun β ρ w' hM'=>⟨ret_two' (by rw [hpv,h5,h6,h7];rfl),hM'.below⟩
   ·exact wp_back fun β ρ w' hM'=>⟨ret_two' (by rw [hpv,show (checkV s b per l&&t.ok&&(t.s==s)&&inB bump 0 100)=false from by simp at h3;simp [h3]];rfl),hM'.below⟩
  ·exact wp_back fun β ρ w' hM'=>⟨ret_two' (by rw [hpv,show (checkV s b per l&&t.ok&&(t.s==s)&&inB bump 0 100)=false from by simp at h2;simp [h2]];rfl),hM'.below⟩
 ·exact wp_back fun β ρ w' hM'=>⟨ret_two' (by rw [hpv,show (checkV s b per l&&t.ok&&(t.s==s)&&inB bump 0 100)=false from by simp at h1;simp [h1]];rfl),hM'.below⟩
end Go.Proofs.YtfhgkkcpkcjbmaaGreatDoor.queue
