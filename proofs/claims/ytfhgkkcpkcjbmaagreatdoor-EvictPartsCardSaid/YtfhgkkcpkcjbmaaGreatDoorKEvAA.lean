/- Layer 17 (evict): lock's First, pot's Over, over the tables that tasks know. -/
import Derived.Test.YtfhgkkcpkcjbmaaGreatDoorKTkLk
import Derived.Test.YtfhgkkcpkcjbmaaGreatDoorKTkAA
import Derived.Test.YtfhgkkcpkcjbmaaGreatDoorKEnvL
import Derived.Test.YtfhgkkcpkcjbmaaGreatDoorKTkJJ
set_option linter.all false
set_option maxHeartbeats 4000000
set_option maxRecDepth 100000
namespace Go.Proofs.YtfhgkkcpkcjbmaaGreatDoor.lock
open Go.RowKit Sx queue greedy shard
theorem lacks (l:List Int) (a:Option Addr) (n c:Nat) (w:World) (i who:Int) (hs:Sl a n c) (hn:n=l.length) (hrow:At w (pt a n) (ic l)) (h2:0≤i∧i<l.length):Calls Tryz.prog 135 (List.toArray [.slice a n c,.int .i64 i,.int .i64 who]) w fun e w'=>e=.returned (.bool (!(holdsB l i who)))∧Below w.heap.size w w':=by
 refine calls_of_exec Sxt.env_ok Tryz.func135 rfl [] (by kernel_rfl) [rowF (pt a n) (ic l)] (at1 hrow) ?_
 conv=>arg 5;whnf
 refine meetc rfl (by kernel_rfl) (fun β ρ w' hM'=>holds l a n c w' i who hs hn (hM'.at_ List.mem_cons_self) h2) ?_
 conv=>arg 5;whnf
 exact wp_back fun β ρ w' hM'=>⟨rfl,hM'.below⟩
def lackP (l:List Int) (who:Int) (k:Nat):Bool:=!(holdsB l k who)
def firstV (l:List Int) (who:Int):Nat:=srch (lackP l who) l.length 0
theorem first (l:List Int) (a:Option Addr) (n c:Nat) (w:World) (who:Int) (hs:Sl a n c) (hn:n=l.length) (hrow:At w (pt a n) (ic l)):Calls Tryz.prog 77 (List.toArray [.slice a n c,.int .i64 who]) w fun e w'=>e=.returned (.int .i64 (firstV l who:Nat))∧Below w.heap.size w w':=by
 refine calls_of_exec Sxt.env_ok Tryz.func77 rfl [] (by kernel_rfl) [rowF (pt a n) (ic l)] (at1 hrow) ?_
 conv=>arg 5;whnf
 refine meetc rfl (by kernel_rfl) (fun β ρ w' hM'=>search l a n c _ (lackP l who) 0 who w' hs hn (hM'.at_ List.mem_cons_self) (Nat.zero_le _) (by kernel_rfl) (fun k w2 hk hb=>lacks l a n c w2 k who hs hn ((hM'.at_ List.mem_cons_self).later hb) (by omega))) ?_
 conv=>arg 5;whnf
 exact wp_back fun β ρ w' hM'=>⟨by rw [Nat.sub_zero,hn];rfl,hM'.below⟩
end Go.Proofs.YtfhgkkcpkcjbmaaGreatDoor.lock
namespace Go.Proofs.YtfhgkkcpkcjbmaaGreatDoor.pot
open Go.RowKit Sx queue greedy shard flt
def overV (t m s:Int):Int:=if mayB t m=true∧0≤s∧s<t then t - s else 0
theorem retI2 {x y:Int} (h:x=y):Ending.returned (tup [.int .i64 x])=.returned (.int .i64 y):=by rw [h];rfl
theorem over (t m s:Int) (w:World) (hs:Fits s):Calls Tryz.prog 132 (List.toArray [two t m,.int .i64 s]) w fun e w'=>e=.returned (.int .i64 (overV t m s))∧Below w.heap.size w w':=by
 unfold Fits at hs
 refine calls_of_exec Sxt.env_ok Tryz.func132 rfl [] (by kernel_rfl) [] (by simp) ?_
 refine meetc rfl (by kernel_rfl) (fun β ρ w' hM=>may t m w') ?_
 cases hm:mayB t m with
 | false=>exact wp_back fun β ρ w' hM=>⟨by unfold overV;rw [if_neg (by simp [hm])];rfl,hM.below⟩
 | true=>
  have hm':=(may_iff t m).1 hm
  refine wp_br (fun h=>?_) (fun h=>?_)
  ·simp at h
   exact wp_back fun β ρ w' hM=>⟨by unfold overV;rw [if_neg (by omega)];rfl,hM.below⟩
  ·simp at h
   refine meetc rfl (by kernel_rfl) (fun β ρ w' hM=>parts t m w' hm) ?_
   refine wp_prim (.float .f64 (fw t.toNat)) (fun w=>by rfl) ?_
   refine wp_prim (.int .i64 t.toNat) (fun w=>back _ w (by omega)) ?_
   refine wp_must (by omega) ?_
   refine wp_prim (.int .i64 (max 0 (t - s))) (fun w=>by simp [Builtin.max_,Builtin.max2,Sem.run_bind];split <;> omega) ?_
   exact wp_back fun β ρ w' hM=>⟨retI2 (by unfold overV;by_cases q:s<t <;> simp [hm,h,q] <;> omega),hM.below⟩
end Go.Proofs.YtfhgkkcpkcjbmaaGreatDoor.pot
namespace Go.Proofs.YtfhgkkcpkcjbmaaGreatDoor.evict
open Go.RowKit Sx txn queue greedy shard pool Go.Proofs.YtfhgkkcpkcjbmaaGreatDoor.look lock Go.Proofs.YtfhgkkcpkcjbmaaGreatDoor.task
structure Ek where
 ph:Int
 i:Int
 t:Tx
 P:Pl
 N:List Int
def evN (n:Int) (q:Ev):List Value:=[.int .i64 q.1,.int .i64 q.2.s,.int .i64 q.2.n,.int .i64 q.2.t,.int .i64 q.2.c,.int .i64 q.2.g,.string q.2.d,.int .i64 n]
def cellsN:List Int→List Ev→List Value
 | _,[]=>[]
 | N,q::l=>evN (N.headD 0) q++cellsN N.tail l
def Ek.cs (v:Ek):List Value:=match v.N with
 | []=>cellsE v.P.ev
 | n::N=>cellsN (n::N) v.P.ev
end Go.Proofs.YtfhgkkcpkcjbmaaGreatDoor.evict
namespace Go.Proofs.YtfhgkkcpkcjbmaaGreatDoor.look
open Go.RowKit Sx txn queue greedy shard pool lock Go.Proofs.YtfhgkkcpkcjbmaaGreatDoor.task
def Pn.fsN (x:Pn) (v:evict.Ek):List Fact:=[rowF (pt x.a v.P.l.length) (cellsL v.P.l),rowF (pt x.ea v.P.ev.length) v.cs,rowF (pt x.ta v.P.r.l.length) (cellsL v.P.r.l)]
end Go.Proofs.YtfhgkkcpkcjbmaaGreatDoor.look
namespace Go.Proofs.YtfhgkkcpkcjbmaaGreatDoor.evict
open Go.RowKit Sx txn queue greedy shard pool Go.Proofs.YtfhgkkcpkcjbmaaGreatDoor.look lock Go.Proofs.YtfhgkkcpkcjbmaaGreatDoor.task
theorem cellsN_nil:∀l:List Ev,cellsN [] l=cellsE l
 | []=>rfl
 | q::l=>by show evN 0 q++cellsN [] l=evC q++cellsE l;rw [cellsN_nil l];rfl
theorem Ek.cs_eq (v:Ek):v.cs=cellsN v.N v.P.ev:=by
 unfold Ek.cs
 cases h:v.N with
 | nil=>exact (cellsN_nil _).symm
 | cons n N=>rfl
theorem cellsN_len:∀(l:List Ev) (N:List Int),(cellsN N l).length=l.length*8
 | [],_=>rfl
 | q::l,N=>by show (evN (N.headD 0) q++cellsN N.tail l).length=_;rw [List.length_append,cellsN_len l];simp [evN];omega
theorem cellsN_one:∀(l:List Ev) (N:List Int),∀u∈cellsN N l,u.oneCell'=true
 | [],_,u,h=>by cases h
 | q::l,N,u,h=>by
  rcases List.mem_append.1 (show u∈evN (N.headD 0) q++cellsN N.tail l from h) with h | h
  ·simp only [evN,List.mem_cons,List.not_mem_nil,or_false] at h
   rcases h with rfl | rfl | rfl | rfl | rfl | rfl | rfl | rfl <;> rfl
  ·exact cellsN_one l _ u h
theorem cellsN_at:∀{l:List Ev} {N:List Int} {k:Nat} {x:Ev},l[k]?=some x→∃n,∀(j:Nat) (u:Value),(evN n x)[j]?=some u→(cellsN N l)[k*8+j]?=some u
 | [],N,k,x,h=>by cases h
 | y::l,N,0,x,h=>by
  cases h
  refine ⟨N.headD 0,fun j u hu=>?_⟩
  have hj:j<(evN (N.headD 0) y).length:=(List.getElem?_eq_some_iff.1 hu).1
  show (evN (N.headD 0) y++cellsN N.tail l)[0*8+j]?=some u
  rw [show 0*8+j=j by omega,List.getElem?_append_left hj]
  exact hu
 | y::l,N,k+1,x,h=>by
  obtain ⟨n,h1⟩:=cellsN_at (l:=l) (N:=N.tail) (k:=k) (x:=x) h
  refine ⟨n,fun j u hu=>?_⟩
  have:=h1 j u hu
  show (evN (N.headD 0) y++cellsN N.tail l)[(k+1)*8+j]?=some u
  rw [List.getElem?_append_right (by show 8≤_;omega)]
  rw [show (k+1)*8+j - (evN (N.headD 0) y).length=k*8+j by show (k+1)*8+j - 8=_;omega]
  exact this
def ekV (v:Ek) (x:Pn):Value:=.agg #[.int .i64 v.ph,.int .i64 v.i,.int .i64 v.t.s,.int .i64 v.t.n,.int .i64 v.t.t,.int .i64 v.t.c,.int .i64 v.t.g,.string v.t.d,.bool v.P.ch,.int .i64 v.P.dl,.int .i64 v.P.s,.int .i64 v.P.b,.slice x.a v.P.l.length x.c,.slice x.ea v.P.ev.length x.ec,.int .i64 v.P.r.e,.int .i64 v.P.r.t.s,.int .i64 v.P.r.t.n,.int .i64 v.P.r.t.t,.int .i64 v.P.r.t.c,.int .i64 v.P.r.t.g,.string v.P.r.t.d,.slice x.ta v.P.r.l.length x.tc,.int .i64 v.P.r.n]
def overB (s:Sg):Bool:=decide (pot.overV s.t s.m s.C.so>0)
def ableE (v:Ek) (who:Int) (s:Sg):Bool:=if who<1∨mayS s=false then false else if v.ph=0 then overB s else if v.ph=1 then freeB s.l v.i else if v.ph=2∨v.ph=3 then ((firstV s.l who:Int)==(s.l.length:Int)) else if v.ph=4 then (heldV s.l who).contains v.i else false
theorem over (s:Sg) (x:Sn) (w:World) (h:Fits s.C.so):Calls Tryz.prog 75 (List.toArray [sgV s x]) w fun e w'=>e=.returned (.bool (overB s))∧Below w.heap.size w w':=by
 refine calls_of_exec Sxe.env_ok.keeps Tryz.func75 rfl [] (schedQ_ok _ _ (by kernel_rfl)) [] (by simp) ?_
 conv=>arg 5;whnf
 refine meetc (f:=132) (v:=.int .i64 (pot.overV s.t s.m s.C.so)) rfl (by kernel_rfl) (fun β ρ w' hM'=>pot.over s.t s.m s.C.so w' h) ?_
 conv=>arg 5;whnf
 exact wp_back fun β ρ w' hM'=>⟨rfl,hM'.below⟩
theorem shardOf (t:Tx) (s:Sg) (x:Sn) (w:World):Calls Tryz.prog 126 (List.toArray [t.val,sgV s x]) w fun e w'=>e=.returned (.int .i64 (fnv.shardV t.s s.C.sh))∧Below w.heap.size w w':=by
 refine calls_of_exec Sxe.env_ok.keeps Tryz.func126 rfl [] (schedQ_ok _ _ (by kernel_rfl)) [] (by simp) ?_
 conv=>arg 5;whnf
 refine meetc (f:=174) (v:=.int .i64 (fnv.shardV t.s s.C.sh)) rfl (by kernel_rfl) (fun β ρ w' hM'=>fnv.shard_any t.s s.C.sh w') ?_
 conv=>arg 5;whnf
 exact wp_back fun β ρ w' hM'=>⟨rfl,hM'.below⟩
theorem able (v:Ek) (y:Pn) (who:Int) (s:Sg) (x:Sn) (w:World) (hM:Most w) (hS:Sgs w x s) (hq:∀q∈x.S,q.n≤1000000) (hl1:s.l.length≤1000000):Calls Tryz.prog 31 (List.toArray [ekV v y,.int .i64 who,sgV s x]) w fun e w'=>e=.returned (.bool (ableE v who s))∧Below w.heap.size w w':=by
 have MY:=fun w hM hS=>task.may s x w hM hS hq
 have hcf:=fun (h:mayS s=true)=>cfg_bd (may_iff.1 h).1
 obtain ⟨⟨hl,hlr⟩,⟨hs,hsn,hsr,hsA⟩,hSm⟩:=hS
 have FR:=fun w hr=>free s.l x.la s.l.length x.lc w v.i hl rfl hr
 have FI:=fun w hr=>first s.l x.la s.l.length x.lc w who hl rfl hr
 have HD:=fun w hr=>held s.l x.la s.l.length x.lc w who hl rfl hr hl1
 have OV:=fun w h=>over s x w h
 have CN:=fun u cu w hu hr=>contains (heldV s.l who) u (heldV s.l who).length cu v.i w hu rfl hr
 have hAV:ableE v who s=if who<1∨mayS s=false then false else if v.ph=0 then overB s else if v.ph=1 then freeB s.l v.i else if v.ph=2∨v.ph=3 then ((firstV s.l who:Int)==(s.l.length:Int)) else if v.ph=4 then (heldV s.l who).contains v.i else false:=rfl
 rw [hAV]
 clear hAV
 generalize mayS s=my at *
 generalize heldV s.l who=hd at *
 generalize freeB s.l v.i=fr at *
 generalize firstV s.l who=fi at *
 generalize overB s=ov at *
 refine calls_of_exec Sxe.env_ok.keeps.soon_ Tryz.func31 rfl [(10,(line [0,1,2,4,5,6,3,7,8],[])),(12,(line [0,1,2,4,5,3,6,7],[]))] (schedQ_ok _ _ (by kernel_rfl)) (sgF x s) (fun φ hφ g hg=>(List.mem_cons.1 hφ).elim (fun e=>by subst e;exact hlr g hg) (fun h=>Shs.facts ⟨hs,hsn,hsr,hsA⟩ φ h g hg)) ?_
 conv=>arg 5;whnf
 refine wp_g0 (fun h1=>?_) (fun h1=>?_)
 rotate_left
 ·rw [if_pos (.inl (of_decide_eq_true h1))]
  conv=>arg 5;whnf
  exact wp_back fun β ρ w' hM'=>⟨rfl,hM'.below⟩
 have h2:¬ who<1:=of_decide_eq_false h1
 conv=>arg 5;whnf
 refine meetc (f:=74) (v:=.bool my) rfl (by kernel_rfl) (fun β ρ w' hM'=>MY w' (hM.later hM'.below) ⟨⟨hl,hM'.at_ (.head _)⟩,⟨hs,hsn,hM'.at_ (.tail _ (.head _)),fun q hqm=>Mem.acs (hsA q hqm) hM' fun φ hφ=>(show φ∈sgF x s from .tail _ (.tail _ (List.mem_flatMap.2 ⟨q,hqm,hφ⟩)))⟩,hSm⟩) ?_
 cases my with
 | false=>
  rw [if_pos (.inr rfl)]
  conv=>arg 5;whnf
  exact wp_back fun β ρ w' hM'=>⟨rfl,hM'.below⟩
 | true=>
  rw [if_neg (fun h=>h.elim h2 (fun h=>by cases h))]
  have hc:=hcf rfl
  conv=>arg 5;whnf
  refine wp_br (fun g0=>?_) (fun g0=>?_)
  ·have k0:v.ph=0:=by have:(v.ph==0)=true:=g0;simpa using this
   rw [if_pos k0]
   conv=>arg 5;whnf
   refine meetc (f:=75) (v:=.bool ov) rfl (by kernel_rfl) (fun β ρ w' hM'=>OV w' ⟨by omega,by omega⟩) ?_
   conv=>arg 5;whnf
   exact wp_back fun β ρ w' hM'=>⟨rfl,hM'.below⟩
  have k0:¬ v.ph=0:=by have:(v.ph==0)=false:=g0;simpa using this
  rw [if_neg k0]
  conv=>arg 5;whnf
  refine wp_br (fun g1=>?_) (fun g1=>?_)
  ·have k1:v.ph=1:=by have:(v.ph==1)=true:=g1;simpa using this
   rw [if_pos k1]
   conv=>arg 5;whnf
   refine meetc (f:=76) (v:=.bool fr) rfl (by kernel_rfl) (fun β ρ w' hM'=>FR w' (hM'.at_ (.head _))) ?_
   conv=>arg 5;whnf
   exact wp_back fun β ρ w' hM'=>⟨rfl,hM'.below⟩
  have k1:¬ v.ph=1:=by have:(v.ph==1)=false:=g1;simpa using this
  rw [if_neg k1]
  conv=>arg 5;whnf
  refine wp_br (fun g2=>?_) (fun g2=>?_)
  ·have k2:v.ph=2:=by have:(v.ph==2)=true:=g2;simpa using this
   rw [if_pos (.inl k2)]
   conv=>arg 5;whnf
   refine meetc (f:=77) (v:=.int .i64 (fi:Nat)) rfl (by kernel_rfl) (fun β ρ w' hM'=>FI w' (hM'.at_ (.head _))) ?_
   conv=>arg 5;whnf
   exact wp_back fun β ρ w' hM'=>⟨rfl,hM'.below⟩
  have k2:¬ v.ph=2:=by have:(v.ph==2)=false:=g2;simpa using this
  conv=>arg 5;whnf
  refine wp_br (fun g3=>?_) (fun g3=>?_)
  ·have k3:v.ph=3:=by have:(v.ph==3)=true:=g3;simpa using this
   rw [if_pos (.inr k3)]
   conv=>arg 5;whnf
   refine meetc (f:=77) (v:=.int .i64 (fi:Nat)) rfl (by kernel_rfl) (fun β ρ w' hM'=>FI w' (hM'.at_ (.head _))) ?_
   conv=>arg 5;whnf
   exact wp_back fun β ρ w' hM'=>⟨rfl,hM'.below⟩
  have k3:¬ v.ph=3:=by have:(v.ph==3)=false:=g3;simpa using this
  rw [if_neg (fun h=>h.elim k2 k3)]
  conv=>arg 5;whnf
  refine wp_br (fun g4=>?_) (fun g4=>?_)
  ·have k4:v.ph=4:=by have:(v.ph==4)=true:=g4;simpa using this
   rw [if_pos k4]
   conv=>arg 5;whnf
   refine meet1F (f:=79) (n:=hd.length) (v:=fun a1 c1=>.slice a1 hd.length c1) (xs:=ic hd) rfl (by kernel_rfl) (fun β ρ w' hM'=>HD w' (hM'.at_ (.head _))) (fun u c_u h_u f_u=>?_)
   conv=>arg 5;whnf
   refine meetc (f:=78) (v:=.bool (hd.contains v.i)) rfl (by kernel_rfl) (fun β ρ w' hM'=>CN u c_u w' h_u (hM'.at_ (.head _))) ?_
   conv=>arg 5;whnf
   exact wp_back fun β ρ w' hM'=>⟨rfl,hM'.below⟩
  have k4:¬ v.ph=4:=by have:(v.ph==4)=false:=g4;simpa using this
  rw [if_neg k4]
  conv=>arg 5;whnf
  exact wp_back fun β ρ w' hM'=>⟨rfl,hM'.below⟩
end Go.Proofs.YtfhgkkcpkcjbmaaGreatDoor.evict
namespace Go.Proofs.YtfhgkkcpkcjbmaaGreatDoor.evict
open Go.RowKit Sx txn queue greedy shard pool Go.Proofs.YtfhgkkcpkcjbmaaGreatDoor.look lock Go.Proofs.YtfhgkkcpkcjbmaaGreatDoor.task
theorem copiedE (s:Sg) (x:Sn) (w:World) (hx:Sgo x s) (hxf:∀φ∈sgF x s,∀g,φ.g=some g→∃o,w.heap[g]?=some o∧φ.holds o) (hl1:s.l.length≤1000000) (hS1:x.S.length≤1000000) (hq1:∀q∈x.S,q.n≤1000000) :
  Calls Tryz.prog 60 (List.toArray [sgV s x]) w fun e w'=>∃x':Sn,Sgo x' s∧Lay w w' [] e (sgV s x') (sgF x' s):=by
 obtain ⟨hl,hs,hA,hSm⟩:=hx
 have hn63:=hs.le
 refine calls_of_exec (Env.Ok.howD Sxt.env_ok.keeps.soon_ [(119,.fresh 3 1),(120,.fresh 125 2),(121,.fresh 47 3)]) Tryz.func60 rfl [] (schedQ_ok _ _ (by kernel_rfl)) (sgF x s) hxf ?_
 conv=>arg 5;whnf
 refine meetM s.l.length (ic s.l) rfl (by kernel_rfl) (fun β ρ w' hM'=>lock.clone s.l x.la s.l.length x.lc w' hl rfl (hM'.at_ (.head _)) hl1) ?_
 conv=>arg 5;whnf
 refine meetM x.S.length (cellsS x.S) rfl (by kernel_rfl) (fun β ρ w' hM'=>cloneS x.S x.sa x.S.length x.sc w' hs rfl (hM'.at_ (.tail _ (.head _))) hS1) ?_
 conv=>arg 5;whnf
 refine loop_rule (Env.Ok.howD Sxt.env_ok.keeps.soon_ [(119,.fresh 3 1),(120,.fresh 125 2),(121,.fresh 47 3)]) [] (schedQ_ok _ _ (by kernel_rfl)) (fun i:Nat×List Shd=>i.1≤x.S.length∧i.2.length=i.1∧i.2.map shdP=(x.S.take i.1).map shdP∧(∀q∈i.2,shdFit q)∧(∀φ∈fsS i.2,∀g,φ.g=some g→w.heap.size≤g)) (fun i=>(⟨[some ([.v (.int .i64 s.C.sh),.v (.int .i64 s.C.so),.v (.int .i64 s.C.hd),.v (.int .i64 s.C.per),.v (.int .i64 s.C.bp),.v (.int .i64 s.C.fd),.v (.int .i64 s.C.wk),.v (.int .i64 s.C.rm),.r 0,.v (.int .i64 s.t),.v (.int .i64 s.m),.r 1],56),some ([.v (.int .i64 0),.v (.int .i64 0),.v (.int .i64 0),.v (.int .i64 0),.v (.int .i64 0),.v (.int .i64 0),.v (.int .i64 0),.v (.int .i64 0),.v (.slice none 0 0),.v (.int .i64 0),.v (.int .i64 0),.v (.slice none 0 0)],56)],[some ⟨3,1,s.l.length,ic s.l⟩,some ⟨125,2,x.S.length,cellsS (i.2++x.S.drop i.1)⟩],rowF (pt x.la s.l.length) (ic s.l)::(fsS i.2++sgF x s)⟩,[.any,.p 0 0,.p 1 0,.any,.any,.any,.any,.any,.any,.any,.any,.any,.any,.any,.any,.any,.v (.int .i64 x.S.length),.v (.int .i64 i.1),.any,.any,.any,.any,.any,.any,.any,.any,.any,.any,.any,.any,.any,.any,.any,.any,.any,.any,.any,.any,.any,.any,.any,.any,.any,.any,.any,.any,.any,.any,.any,.any,.any])) (fun i=>x.S.length - i.1) (0,[]) ⟨Nat.zero_le _,rfl,rfl,by simp,by simp [fsS]⟩ ⟨by repeat' first | exact trivial | refine ⟨.inl rfl,?_⟩ | refine ⟨.inr rfl,?_⟩,⟨by repeat' first | exact trivial | refine ⟨.inl rfl,?_⟩ | refine ⟨.inr rfl,?_⟩,by repeat' first | exact trivial | refine ⟨.inl rfl,?_⟩ | refine ⟨.inr rfl,?_⟩,fun φ h=>(List.mem_cons.1 h).elim (fun e=>by subst e;exact .head _) (fun h=>h)⟩,rfl⟩ ?_
 rintro ⟨k,Ss⟩ ⟨hk,hLk,hLm,hLf,hLn⟩
 have hk:k≤x.S.length:=hk
 have hLk:Ss.length=k:=hLk
 conv=>arg 5;whnf
 refine wp_br (fun h1=>?_) (fun h1=>?_)
 ·have hlt:k<x.S.length:=by have h3:=of_decide_eq_true (show decide ((k:Int)<(x.S.length:Int))=true from h1);omega
  obtain ⟨y,hy⟩:∃y,x.S[k]?=some y:=⟨_,List.getElem?_eq_getElem (by omega)⟩
  have hym:y∈x.S:=List.mem_of_getElem? hy
  obtain ⟨ys,yn,yf⟩:=hA y hym
  have hyn:=hq1 y hym
  have yle:=ys.le
  have hdr:x.S.drop k=y::x.S.drop (k+1):=by
   have hkl:k<x.S.length:=by omega
   rw [List.drop_eq_getElem_cons hkl,(List.getElem?_eq_some_iff.1 hy).2]
  rw [show (k,Ss).2=Ss from rfl,show (k,Ss).1=k from rfl,hdr]
  have hyy:(Ss++y::x.S.drop (k+1))[k]?=some y:=by rw [List.getElem?_append_right (by omega),hLk];simp
  have hyF:∀φ∈acsF y.a y.n y.L,φ∈sgF x s:=fun φ hφ=>.tail _ (.tail _ (List.mem_flatMap.2 ⟨y,hym,hφ⟩))
  conv=>arg 5;whnf
  refine wp_must ⟨by omega,by show (k:Int)<(x.S.length:Int);omega⟩ ?_
  conv=>arg 5;whnf
  refine ⟨[.slice y.a y.n y.c],rfl,fun j u hu=>(by cases j with | zero=>(simp at hu;subst hu;exact cellsS_at hyy 0 _ rfl) | succ j=>simp at hu),?_⟩
  conv=>arg 5;whnf
  refine meetM y.n (cellsA y.L) rfl (by kernel_rfl) (fun β ρ w' hM'=>cloneA y.L y.a y.n y.c w' ys yn (hM'.at_ (.tail _ (List.mem_append_right _ (hyF _ (.head _))))) (by omega)) ?_
  conv=>arg 5;whnf
  refine loop_rule (Env.Ok.howD Sxt.env_ok.keeps.soon_ [(119,.fresh 3 1),(120,.fresh 125 2),(121,.fresh 47 3)]) [] (schedQ_ok _ _ (by kernel_rfl)) (fun i:Nat×List Ac=>i.1≤y.n∧i.2.length=i.1∧i.2.map acP=(y.L.take i.1).map acP∧(∀x∈i.2,x.fit)∧(∀φ∈i.2.map acF,∀g,φ.g=some g→w.heap.size≤g)) (fun i=>(⟨[some ([.v (.int .i64 s.C.sh),.v (.int .i64 s.C.so),.v (.int .i64 s.C.hd),.v (.int .i64 s.C.per),.v (.int .i64 s.C.bp),.v (.int .i64 s.C.fd),.v (.int .i64 s.C.wk),.v (.int .i64 s.C.rm),.r 0,.v (.int .i64 s.t),.v (.int .i64 s.m),.r 1],56),some ([.v (.int .i64 0),.v (.int .i64 0),.v (.int .i64 0),.v (.int .i64 0),.v (.int .i64 0),.v (.int .i64 0),.v (.int .i64 0),.v (.int .i64 0),.v (.slice none 0 0),.v (.int .i64 0),.v (.int .i64 0),.v (.slice none 0 0)],56)],[some ⟨3,1,s.l.length,ic s.l⟩,some ⟨125,2,x.S.length,cellsS (Ss++y::x.S.drop (k+1))⟩,some ⟨47,3,y.n,cellsA (i.2++y.L.drop i.1)⟩],rowF (pt x.la s.l.length) (ic s.l)::(i.2.map acF++(fsS Ss++sgF x s))⟩,[.any,.p 0 0,.p 1 0,.v (.int .i64 k),.r 2,.any,.any,.any,.any,.any,.any,.any,.any,.any,.any,.any,.v (.int .i64 x.S.length),.v (.int .i64 k),.any,.any,.any,.any,.any,.any,.any,.any,.any,.any,.v (.int .i64 y.n),.v (.int .i64 i.1),.any,.any,.any,.any,.any,.any,.any,.any,.any,.any,.any,.any,.any,.any,.any,.any,.any,.any,.any,.any,.any])) (fun i=>y.n - i.1) (0,[]) ⟨Nat.zero_le _,rfl,rfl,by simp,by simp⟩ ⟨by repeat' first | exact trivial | refine ⟨.inl rfl,?_⟩ | refine ⟨.inr rfl,?_⟩,⟨by repeat' first | exact trivial | refine ⟨.inl rfl,?_⟩ | refine ⟨.inr rfl,?_⟩,by repeat' first | exact trivial | refine ⟨.inl rfl,?_⟩ | refine ⟨.inr rfl,?_⟩,fun _ h=>h⟩,rfl⟩ ?_
  rintro ⟨t,Ls⟩ ⟨ht,hMk,hMm,hMf,hMn⟩
  have ht:t≤y.n:=ht
  have hMk:Ls.length=t:=hMk
  conv=>arg 5;whnf
  refine wp_br (fun h2=>?_) (fun h2=>?_)
  ·have htl:t<y.n:=by have h3:=of_decide_eq_true (show decide ((t:Int)<(y.n:Int))=true from h2);omega
   obtain ⟨z,hz⟩:∃z,y.L[t]?=some z:=⟨_,List.getElem?_eq_getElem (by omega)⟩
   have hzm:z∈y.L:=List.mem_of_getElem? hz
   obtain ⟨zs,zn,zl,zd⟩:=yf z hzm
   have hdz:y.L.drop t=z::y.L.drop (t+1):=by
    have hkl:t<y.L.length:=by omega
    rw [List.drop_eq_getElem_cons hkl,(List.getElem?_eq_some_iff.1 hz).2]
   rw [show (t,Ls).2=Ls from rfl,show (t,Ls).1=t from rfl,hdz]
   have hzz:(Ls++z::y.L.drop (t+1))[t]?=some z:=by rw [List.getElem?_append_right (by omega),hMk];simp
   conv=>arg 5;whnf
   refine wp_must ⟨by omega,by show (t:Int)<(y.n:Int);omega⟩ ?_
   conv=>arg 5;whnf
   refine ⟨[.slice z.a z.n z.c],rfl,fun j u hu=>(by cases j with | zero=>(simp at hu;subst hu;exact cellsA_at hzz 2 _ rfl) | succ j=>simp at hu),?_⟩
   conv=>arg 5;whnf
   refine meetO (e:=38) (size:=6) z.n (cellsL z.l) rfl (by kernel_rfl) (fun β ρ w' hM'=>clone z.l z.a z.n z.c w' zs zn (hM'.at_ (.tail _ (List.mem_append_right _ (List.mem_append_right _ (hyF _ (.tail _ (List.mem_map.2 ⟨z,hzm,rfl⟩))))))) zl) (fun u c_u h_u f_u=>?_)
   conv=>arg 5;whnf
   refine wp_must ⟨by omega,by show (t:Int)<(y.n:Int);omega⟩ ?_
   have es:spl (cellsA (Ls++z::y.L.drop (t+1))) (t*3+2) [.slice u z.n c_u]=cellsA ((Ls++[⟨z.s,z.b,u,z.n,c_u,z.l⟩])++y.L.drop (t+1)):=by rw [← hMk];exact spl_acc Ls _ z u c_u
   conv=>arg 5;whnf
   refine wp_must (by show t*3+2+1≤(cellsA (Ls++z::y.L.drop (t+1))).length;rw [cellsA_length,List.length_append,List.length_cons,hMk];omega) ?_
   conv=>arg 5;whnf
   refine wp_must ⟨by show -9223372036854775808≤(t:Int)+1;omega,by show (t:Int)+1≤9223372036854775807;omega⟩ ?_
   have hf2:(⟨z.s,z.b,u,z.n,c_u,z.l⟩:Ac).fit:=⟨h_u,zn,zl,zd⟩
   conv=>arg 5;whnf
   refine wp_end ⟨(t+1,Ls++[⟨z.s,z.b,u,z.n,c_u,z.l⟩]),⟨htl,by rw [List.length_append,hMk];rfl,by rw [List.map_append,hMm,List.take_add_one,hz,List.map_append];rfl,fun x hx=>(List.mem_append.1 hx).elim (hMf x) (fun h=>by rw [List.mem_singleton] at h;subst h;exact hf2),fun φ hφ=>by
    rw [List.map_append] at hφ
    rcases List.mem_append.1 hφ with hφ | hφ
    ·exact hMn φ hφ
    ·simp only [List.map_cons,List.map_nil,List.mem_singleton] at hφ
     subst hφ
     intro g hg
     exact newO f_u g hg⟩,⟨by repeat' first | exact trivial | refine ⟨.inl rfl,?_⟩ | refine ⟨.inr rfl,?_⟩,⟨by repeat' first | exact trivial | refine ⟨.inl rfl,?_⟩ | refine ⟨.inr rfl,?_⟩,by simp only [];rw [← es];repeat' first | exact trivial | refine ⟨.inl rfl,?_⟩ | refine ⟨.inr rfl,?_⟩,fun φ hφ=>by
    rcases List.mem_cons.1 hφ with rfl | hφ
    ·exact .tail _ (.head _)
    rcases List.mem_append.1 hφ with hφ | hφ
    ·rw [List.map_append] at hφ
     rcases List.mem_append.1 hφ with hφ | hφ
     ·exact .tail _ (.tail _ (List.mem_append_left _ hφ))
     ·simp only [List.map_cons,List.map_nil,List.mem_singleton] at hφ
      subst hφ
      exact .head _
    ·exact .tail _ (.tail _ (List.mem_append_right _ hφ))⟩,rfl⟩,by show y.n - (t+1)<y.n - t;omega⟩
  ·have htn:t=y.n:=by have h3:=of_decide_eq_false (show decide ((t:Int)<(y.n:Int))=false from h2);omega
   have e:y.L.take t=y.L:=List.take_of_length_le (by omega)
   have e2:y.L.drop t=[]:=List.drop_of_length_le (by omega)
   rw [show (t,Ls).2=Ls from rfl,show (t,Ls).1=t from rfl,e2,List.append_nil]
   have hMm:Ls.map acP=y.L.map acP:=by rw [← e];exact hMm
   have hll:y.n=Ls.length:=by omega
   conv=>arg 5;whnf
   refine wp_must ⟨by omega,by show (k:Int)<(x.S.length:Int);omega⟩ ?_
   conv=>arg 5;whnf
   refine wp_share fun v c_v h_v f_v=>?_
   have es:spl (cellsS (Ss++y::x.S.drop (k+1))) (k*2) [.slice v y.n c_v]=cellsS ((Ss++[⟨v,y.n,c_v,Ls,y.v⟩])++x.S.drop (k+1)):=by rw [← hLk];exact spl_shd2 Ss _ y v c_v Ls
   conv=>arg 5;whnf
   refine wp_must (by show k*2+1≤(cellsS (Ss++y::x.S.drop (k+1))).length;rw [cellsS_len,List.length_append,List.length_cons,hLk];omega) ?_
   conv=>arg 5;whnf
   refine wp_must ⟨by show -9223372036854775808≤(k:Int)+1;omega,by show (k:Int)+1≤9223372036854775807;omega⟩ ?_
   conv=>arg 5;whnf
   refine wp_end ⟨(k+1,Ss++[⟨v,y.n,c_v,Ls,y.v⟩]),⟨hlt,by rw [List.length_append,hLk];rfl,by rw [List.map_append,hLm,List.take_add_one,hy,List.map_append];show _++[shdP ⟨v,y.n,c_v,Ls,y.v⟩]=_++[shdP y];unfold shdP;rw [hMm],fun r hr=>(List.mem_append.1 hr).elim (hLf r) (fun h=>by rw [List.mem_singleton] at h;subst h;exact ⟨h_v,hll,hMf⟩),fun φ hφ=>by
    rw [fsS_app] at hφ
    rcases List.mem_append.1 hφ with hφ | hφ
    ·exact hLn φ hφ
    ·unfold fsS at hφ
     rw [List.flatMap_cons,List.flatMap_nil,List.append_nil] at hφ
     rcases List.mem_cons.1 hφ with rfl | hφ
     ·intro g hg
      exact newW f_v g hg
     ·exact hMn φ hφ⟩,⟨by repeat' first | exact trivial | refine ⟨.inl rfl,?_⟩ | refine ⟨.inr rfl,?_⟩,⟨by repeat' first | exact trivial | refine ⟨.inl rfl,?_⟩ | refine ⟨.inr rfl,?_⟩,by simp only [];rw [← es];repeat' first | exact trivial | refine ⟨.inl rfl,?_⟩ | refine ⟨.inr rfl,?_⟩,fun φ hφ=>by
    rcases List.mem_cons.1 hφ with rfl | hφ
    ·exact .tail _ (.head _)
    rcases List.mem_append.1 hφ with hφ | hφ
    ·rw [fsS_app] at hφ
     rcases List.mem_append.1 hφ with hφ | hφ
     ·exact .tail _ (.tail _ (List.mem_append_right _ (List.mem_append_left _ hφ)))
     ·unfold fsS at hφ
      rw [List.flatMap_cons,List.flatMap_nil,List.append_nil] at hφ
      rcases List.mem_cons.1 hφ with rfl | hφ
      ·exact .head _
      ·exact .tail _ (.tail _ (List.mem_append_left _ hφ))
    ·exact .tail _ (.tail _ (List.mem_append_right _ (List.mem_append_right _ hφ)))⟩,rfl⟩,by show x.S.length - (k+1)<x.S.length - k;omega⟩
 ·have hkn:k=x.S.length:=by have h3:=of_decide_eq_false (show decide ((k:Int)<(x.S.length:Int))=false from h1);omega
  have e:x.S.take k=x.S:=List.take_of_length_le (by omega)
  have e2:x.S.drop k=[]:=List.drop_of_length_le (by omega)
  rw [show (k,Ss).2=Ss from rfl,show (k,Ss).1=k from rfl,e2,List.append_nil]
  have hLm:Ss.map shdP=x.S.map shdP:=by rw [← e];exact hLm
  have hll:x.S.length=Ss.length:=by omega
  conv=>arg 5;whnf
  refine wp_share fun z0 k0 s0 f0=>?_
  conv=>arg 5;whnf
  refine wp_share fun z1 k1 s1 f1=>?_
  conv=>arg 5;whnf
  rw [hll] at s1
  refine wp_back fun β ρ w' hM'=>⟨⟨z0,k0,z1,k1,Ss⟩,⟨s0,s1,hLf,hLm.trans hSm⟩,?_,hM'.below,fun φ hφ g hg=>?_⟩
  ·unfold sgV
   rw [← hll]
   rfl
  ·rcases List.mem_cons.1 hφ with rfl | hφ
   ·exact pt_mem _ hM' (by repeat' first | exact List.Mem.head _ | apply List.Mem.tail) f0 g hg
   ·rcases List.mem_cons.1 hφ with rfl | hφ
    ·exact pt_mem _ hM' (by repeat' first | exact List.Mem.head _ | apply List.Mem.tail) f1 g hg
    ·obtain ⟨r,hr,hφ⟩:=List.mem_flatMap.1 hφ
     have hin:∀ψ∈rowF r.a (cellsA r.L)::r.L.map acF,ψ∈fsS Ss:=fun ψ hψ=>List.mem_flatMap.2 ⟨r,hr,hψ⟩
     rcases List.mem_cons.1 hφ with rfl | hφ
     ·have hf:Fresh w none r.a:=fun ad had=>.inl (hLn _ (hin _ (.head _)) ad.block (by rw [had];rfl))
      exact pt_mem _ hM' (.tail _ (.tail _ (.tail _ (List.mem_append_left _ (hin _ (.head _)))))) hf g hg
     ·exact ⟨.inl (hLn _ (hin _ (.tail _ hφ)) g hg),(hM'.fact _ (.tail _ (.tail _ (.tail _ (List.mem_append_left _ (hin _ (.tail _ hφ)))))) g hg).2⟩
theorem cloneX (X:List Value) (a:Option Addr) (n c:Nat) (w:World) (hs:Sl a n c) (hX:X.length=n*8) (ho:∀u∈X,u.oneCell'=true) (hrow:At w (pt a n) X) (hl:n≤1000000) :
  Calls Tryz.prog 106 (List.toArray [.slice a n c]) w fun e w'=>∃v,e=.returned v∧Below w.heap.size w w'∧w'.ownsRow w.heap.size 122 8 v n X:=by
 refine calls_of_row (Env.Ok.howD Sxt.env_ok [(106,.fresh 122 8)]) Tryz.func106 rfl [] (by kernel_rfl) (n:=2) rfl [.v (.slice a n c)] ⟨[],[],[rowF (pt a n) X]⟩ [] (mem_plain _ (at1 hrow)) (Rels.vals [.slice a n c]) ?_
 refine wp_prim (.bool a.isNone) (fun w=>by simp [eqGuard,Lib.run_eql_slice_nil w _ _ a n c 0 0 Tryz.underlying35]) ?_
 refine wp_br (fun h1=>?_) (fun h1=>?_)
 ·cases a with
  | some _=>cases h1
  | none=>
   have h0:=(hs.2.2 rfl).1
   exact wp_back fun β ρ w' hM'=>⟨_,rfl,hM'.below,by
    have hl0:X=[]:=List.eq_nil_of_length_eq_zero (by omega)
    subst hl0
    exact ⟨by simp [h0],.inl ⟨rfl,h0⟩⟩⟩
 ·refine ⟨X,hX,ho,fun β ρ w' hM' ad had j u hu=>?_,?_⟩
  ·subst had
   have h1:=hM'.at_ List.mem_cons_self
   rw [pt_pos (k:=0) (by have:=(List.getElem?_eq_some_iff.1 hu).1;rw [hX] at this;omega)] at h1
   exact h1.cell hu
  ·refine wp_must ⟨by show 0+n≤maxLen;unfold maxLen;omega,by show (0+n)*72≤140737488355328;omega,fun ha=>hs.2.2 ha⟩ ?_
   refine wp_end (fun β ρ w' v hM' hv=>⟨v,rfl,hM'.below,?_⟩)
   have:=hM'.mine (i:=0) (r:=⟨122,8,0+n,[]++X⟩) rfl hv
   simpa using this
theorem copied (v:Ek) (y:Pn) (w:World) (hy:y.ok v.P) (hyf:∀φ∈y.fsN v,∀g,φ.g=some g→∃o,w.heap[g]?=some o∧φ.holds o) (h1:v.P.l.length≤1000000) (h2:v.P.ev.length≤1000000) (h3:v.P.r.l.length≤1000000) :
  Calls Tryz.prog 59 (List.toArray [ekV v y]) w fun e w'=>∃y':Pn,y'.ok v.P∧Lay w w' [] e (ekV v y') (y'.fsN v):=by
 refine calls_of_exec (Env.Ok.howD Sxe.env_ok.keeps.soon_ [(106,.fresh 122 8),(118,.fresh 38 6)]) Tryz.func59 rfl [] (schedQ_ok _ _ (by kernel_rfl)) (y.fsN v) hyf ?_
 conv=>arg 5;whnf
 refine meetM v.P.l.length (cellsL v.P.l) rfl (by kernel_rfl) (fun β ρ w' hM'=>cloneT v.P.l y.a v.P.l.length y.c w' hy.1 rfl (hM'.at_ (show rowF (pt y.a v.P.l.length) (cellsL v.P.l)∈y.fsN v from (.head _))) h1) ?_
 conv=>arg 5;whnf
 refine meetM v.P.ev.length v.cs rfl (by kernel_rfl) (fun β ρ w' hM'=>cloneX v.cs y.ea v.P.ev.length y.ec w' hy.2.1 (by rw [v.cs_eq];exact cellsN_len _ _) (by rw [v.cs_eq];exact cellsN_one _ _) (hM'.at_ (show rowF (pt y.ea v.P.ev.length) v.cs∈y.fsN v from (.tail _ (.head _)))) h2) ?_
 conv=>arg 5;whnf
 refine meetM v.P.r.l.length (cellsL v.P.r.l) rfl (by kernel_rfl) (fun β ρ w' hM'=>cloneT v.P.r.l y.ta v.P.r.l.length y.tc w' hy.2.2 rfl (hM'.at_ (show rowF (pt y.ta v.P.r.l.length) (cellsL v.P.r.l)∈y.fsN v from (.tail _ (.tail _ (.head _))))) h3) ?_
 conv=>arg 5;whnf
 refine wp_share fun z0 k0 s0 f0=>?_
 conv=>arg 5;whnf
 refine wp_share fun z1 k1 s1 f1=>?_
 conv=>arg 5;whnf
 refine wp_share fun z2 k2 s2 f2=>?_
 conv=>arg 5;whnf
 refine wp_back fun β ρ w' hM'=>⟨⟨z0,k0,z1,k1,z2,k2⟩,⟨s0,s1,s2⟩,rfl,hM'.below,fun φ hφ g hg=>?_⟩
 rcases List.mem_cons.1 hφ with rfl | h
 ·exact pt_mem _ hM' (by repeat' first | exact List.Mem.head _ | apply List.Mem.tail) f0 g hg
 ·rcases List.mem_cons.1 h with rfl | h
  ·exact pt_mem _ hM' (by repeat' first | exact List.Mem.head _ | apply List.Mem.tail) f1 g hg
  ·rw [List.mem_singleton] at h
   subst h
   exact pt_mem _ hM' (by repeat' first | exact List.Mem.head _ | apply List.Mem.tail) f2 g hg
end Go.Proofs.YtfhgkkcpkcjbmaaGreatDoor.evict
namespace Go.Proofs.YtfhgkkcpkcjbmaaGreatDoor.evict
open Go.RowKit Sx txn queue greedy shard pool Go.Proofs.YtfhgkkcpkcjbmaaGreatDoor.look lock Go.Proofs.YtfhgkkcpkcjbmaaGreatDoor.task
structure Er where
 v:Ek
 s:Sg
 ev:List Ev
 p:Bool
structure Ea where
 y:Pn
 x:Sn
 ea:Option Addr
 ec:Nat
def Ea.ok (a:Ea) (r:Er):Prop:=a.y.ok r.v.P∧Sgo a.x r.s∧Sl a.ea r.ev.length a.ec
def Ea.fs (a:Ea) (r:Er):List Fact:=rowF (pt a.ea r.ev.length) (cellsE r.ev)::(a.y.fsN r.v++sgF a.x r.s)
def Ea.v2 (a:Ea) (r:Er):Value:=.tuple #[ekV r.v a.y,sgV r.s a.x]
def Ea.v4 (a:Ea) (r:Er):Value:=.tuple #[ekV r.v a.y,sgV r.s a.x,.slice a.ea r.ev.length a.ec,.bool r.p]
def Et (out:Ea→Er→Value) (w w':World) (old:List Fact) (e:Ending) (r:Er):Prop:=∃a:Ea,a.ok r∧Lay w w' old e (out a r) (a.fs r)
section
variable {W : World} {G : Option Nat} {Q : Ending → World → Prop} {ds : List Deferred}
theorem meetEt (out:Ea→Er→Value) {f:FuncId} {args:List Sx.T} {l:List Value} {m:M} {k:Value→List Fact→Tree} (r:Er) (old:List Fact) (hold:∀ψ∈old,ψ∈m.facts) (hv:valsOf args=some l) (hc:callable Tryz.prog f=true)
  (hC:∀β ρ w,Mem W G m β ρ w→Calls Tryz.prog f (List.toArray l) w fun e w'=>Et out w w' old e r)
  (h:∀a:Ea,a.ok r→(∀φ∈a.fs r,New W old φ)→(k (out a r) (a.fs r)).wpD Tryz.prog W G Q ds):(Tree.call f args m k).wpD Tryz.prog W G Q ds:=
 meetLy (ι:=Ea) (ok:=fun a=>a.ok r) (v:=fun a=>out a r) (fs:=fun a=>a.fs r) old hold hv hc hC h
end
theorem et_mk {out:Ea→Er→Value} {W w':World} {m:M} {β ρ} {old:List Fact} {e:Ending} {r:Er} (a:Ea) (ha:a.ok r) (he:e=.returned (out a r)) (hM:Mem W none m β ρ w') (hm:∀φ∈a.fs r,∀g,φ.g=some g→φ∈m.facts∧New W old φ):Et out W w' old e r:=
 ⟨a,ha,he,hM.below,fun φ hφ g hg=>⟨(hm φ hφ g hg).2 g hg,(hM.fact φ (hm φ hφ g hg).1 g hg).2⟩⟩
def v0:Ek:=⟨0,0,tx0,failL 0,[]⟩
def takeR (v:Ek) (who:Int) (s:Sg):Er:=⟨if v.i+1=s.l.length then ⟨2,0,v.t,v.P,v.N⟩ else ⟨v.ph,v.i+1,v.t,v.P,v.N⟩,⟨s.C,takeV s.l v.i who,s.t,s.m,s.S⟩,[],false⟩
def giveR (v:Ek) (who:Int) (s:Sg):Er:=⟨if v.i+1=s.l.length then v0 else ⟨v.ph,v.i+1,v.t,v.P,v.N⟩,⟨s.C,giveV s.l v.i who,s.t,s.m,s.S⟩,[],false⟩
theorem take_ (v:Ek) (y:Pn) (who:Int) (s:Sg) (x:Sn) (w:World) (hy:y.ok v.P) (hyf:∀φ∈y.fsN v,∀g,φ.g=some g→∃o,w.heap[g]?=some o∧φ.holds o) (hx:Sgo x s) (hxf:∀φ∈sgF x s,∀g,φ.g=some g→∃o,w.heap[g]?=some o∧φ.holds o) (hl1:s.l.length≤1000000) (hi:0≤v.i∧v.i<s.l.length) :
  Calls Tryz.prog 66 (List.toArray [ekV v y,.int .i64 who,sgV s x]) w fun e w'=>Et Ea.v2 w w' (y.fsN v++sgF x s) e (takeR v who s):=by
 have TK:=fun w hr=>lock.take s.l x.la s.l.length x.lc w v.i who hx.1 rfl hr hl1
 have hlen:=task.take_len s.l v.i who
 have hR:takeR v who s=⟨if v.i+1=s.l.length then ⟨2,0,v.t,v.P,v.N⟩ else ⟨v.ph,v.i+1,v.t,v.P,v.N⟩,⟨s.C,takeV s.l v.i who,s.t,s.m,s.S⟩,[],false⟩:=rfl
 rw [hR]
 clear hR
 generalize takeE s.l v.i who=er at *
 generalize takeV s.l v.i who=l2 at *
 refine calls_of_exec Sxe.env_ok.keeps.soon_ Tryz.func66 rfl [(5,(line [0,1,2,3],[2,3]))] (schedQ_ok _ _ (by kernel_rfl)) (y.fsN v++sgF x s) (fun φ hφ g hg=>(List.mem_append.1 hφ).elim (fun h=>hyf φ h g hg) (fun h=>hxf φ h g hg)) ?_
 conv=>arg 5;whnf
 refine meet1F (f:=122) (n:=s.l.length) (v:=fun a1 c1=>.tuple #[.slice a1 s.l.length c1,.int .i64 er]) (xs:=ic l2) rfl (by kernel_rfl) (fun β ρ w' hM'=>TK w' (hM'.at_ (show rowF (pt x.la s.l.length) (ic s.l)∈(y.fsN v++sgF x s) from List.mem_append_right _ (.head _)))) (fun u c_u h_u f_u=>?_)
 have h_u:Sl u l2.length c_u:=by rw [hlen];exact h_u
 rw [← hlen] at f_u
 conv=>arg 5;whnf
 refine wp_must ⟨by omega,by omega⟩ ?_
 conv=>arg 5;whnf
 refine wp_br (fun h1=>?_) (fun h1=>?_)
 ·skip
  rw [if_pos (show v.i+1=s.l.length by have h2:(v.i+1==(s.l.length:Int))=true:=h1;simpa using h2)]
  conv=>arg 5;whnf
  refine wp_back fun β ρ w' hM'=>et_mk (r:=⟨⟨2,0,v.t,v.P,v.N⟩,⟨s.C,l2,s.t,s.m,s.S⟩,[],false⟩) ⟨y,⟨u,c_u,x.sa,x.sc,x.S⟩,none,0⟩ ⟨hy,⟨h_u,hx.2⟩,sl0⟩ (by unfold Ea.v2 sgV;rw [hlen];rfl) hM' fun φ hφ g hg=>?_
  rcases List.mem_cons.1 hφ with rfl | hφ
  ·cases hg
  ·rcases List.mem_append.1 hφ with h | h
   ·exact ⟨(show φ∈rowF (pt u s.l.length) (ic l2)::(y.fsN v++sgF x s) from .tail _ (List.mem_append_left _ h)),new_old (List.mem_append_left _ h)⟩
   ·rcases List.mem_cons.1 h with rfl | h
    ·exact ⟨by rw [show (⟨s.C,l2,s.t,s.m,s.S⟩:Sg).l.length=s.l.length from hlen];exact (show rowF (pt u s.l.length) (ic l2)∈rowF (pt u s.l.length) (ic l2)::(y.fsN v++sgF x s) from .head _),fun g hg=>.inl (f_u g hg)⟩
    ·exact ⟨(show φ∈rowF (pt u s.l.length) (ic l2)::(y.fsN v++sgF x s) from .tail _ (List.mem_append_right _ (.tail _ h))),new_old (List.mem_append_right _ (.tail _ h))⟩
 ·skip
  rw [if_neg (show ¬ v.i+1=s.l.length by have h2:(v.i+1==(s.l.length:Int))=false:=h1;simpa using h2)]
  conv=>arg 5;whnf
  refine wp_back fun β ρ w' hM'=>et_mk (r:=⟨⟨v.ph,v.i+1,v.t,v.P,v.N⟩,⟨s.C,l2,s.t,s.m,s.S⟩,[],false⟩) ⟨y,⟨u,c_u,x.sa,x.sc,x.S⟩,none,0⟩ ⟨hy,⟨h_u,hx.2⟩,sl0⟩ (by unfold Ea.v2 sgV;rw [hlen];rfl) hM' fun φ hφ g hg=>?_
  rcases List.mem_cons.1 hφ with rfl | hφ
  ·cases hg
  ·rcases List.mem_append.1 hφ with h | h
   ·exact ⟨(show φ∈rowF (pt u s.l.length) (ic l2)::(y.fsN v++sgF x s) from .tail _ (List.mem_append_left _ h)),new_old (List.mem_append_left _ h)⟩
   ·rcases List.mem_cons.1 h with rfl | h
    ·exact ⟨by rw [show (⟨s.C,l2,s.t,s.m,s.S⟩:Sg).l.length=s.l.length from hlen];exact (show rowF (pt u s.l.length) (ic l2)∈rowF (pt u s.l.length) (ic l2)::(y.fsN v++sgF x s) from .head _),fun g hg=>.inl (f_u g hg)⟩
    ·exact ⟨(show φ∈rowF (pt u s.l.length) (ic l2)::(y.fsN v++sgF x s) from .tail _ (List.mem_append_right _ (.tail _ h))),new_old (List.mem_append_right _ (.tail _ h))⟩
theorem give_ (v:Ek) (y:Pn) (who:Int) (s:Sg) (x:Sn) (w:World) (hy:y.ok v.P) (hyf:∀φ∈y.fsN v,∀g,φ.g=some g→∃o,w.heap[g]?=some o∧φ.holds o) (hx:Sgo x s) (hxf:∀φ∈sgF x s,∀g,φ.g=some g→∃o,w.heap[g]?=some o∧φ.holds o) (hl1:s.l.length≤1000000) (hi:0≤v.i∧v.i<s.l.length) :
  Calls Tryz.prog 69 (List.toArray [ekV v y,.int .i64 who,sgV s x]) w fun e w'=>Et Ea.v2 w w' (y.fsN v++sgF x s) e (giveR v who s):=by
 have TK:=fun w hr=>lock.give s.l x.la s.l.length x.lc w v.i who hx.1 rfl hr hl1
 have hlen:=task.give_len s.l v.i who
 have hR:giveR v who s=⟨if v.i+1=s.l.length then v0 else ⟨v.ph,v.i+1,v.t,v.P,v.N⟩,⟨s.C,giveV s.l v.i who,s.t,s.m,s.S⟩,[],false⟩:=rfl
 rw [hR]
 clear hR
 generalize giveE s.l v.i who=er at *
 generalize giveV s.l v.i who=l2 at *
 refine calls_of_exec Sxe.env_ok.keeps.soon_ Tryz.func69 rfl [(5,(line [0,1,2,3],[2,3]))] (schedQ_ok _ _ (by kernel_rfl)) (y.fsN v++sgF x s) (fun φ hφ g hg=>(List.mem_append.1 hφ).elim (fun h=>hyf φ h g hg) (fun h=>hxf φ h g hg)) ?_
 conv=>arg 5;whnf
 refine meet1F (f:=130) (n:=s.l.length) (v:=fun a1 c1=>.tuple #[.slice a1 s.l.length c1,.int .i64 er]) (xs:=ic l2) rfl (by kernel_rfl) (fun β ρ w' hM'=>TK w' (hM'.at_ (show rowF (pt x.la s.l.length) (ic s.l)∈(y.fsN v++sgF x s) from List.mem_append_right _ (.head _)))) (fun u c_u h_u f_u=>?_)
 have h_u:Sl u l2.length c_u:=by rw [hlen];exact h_u
 rw [← hlen] at f_u
 conv=>arg 5;whnf
 refine wp_must ⟨by omega,by omega⟩ ?_
 conv=>arg 5;whnf
 refine wp_br (fun h1=>?_) (fun h1=>?_)
 ·skip
  rw [if_pos (show v.i+1=s.l.length by have h2:(v.i+1==(s.l.length:Int))=true:=h1;simpa using h2)]
  conv=>arg 5;whnf
  refine wp_back fun β ρ w' hM'=>et_mk (r:=⟨v0,⟨s.C,l2,s.t,s.m,s.S⟩,[],false⟩) ⟨⟨none,0,none,0,none,0⟩,⟨u,c_u,x.sa,x.sc,x.S⟩,none,0⟩ ⟨⟨sl0,sl0,sl0⟩,⟨h_u,hx.2⟩,sl0⟩ (by unfold Ea.v2 sgV;rw [hlen];rfl) hM' fun φ hφ g hg=>?_
  rcases List.mem_cons.1 hφ with rfl | hφ
  ·cases hg
  ·rcases List.mem_append.1 hφ with h | h
   ·simp only [v0,Pn.fsN,List.mem_cons,List.not_mem_nil,or_false] at h
    rcases h with rfl | rfl | rfl <;> cases hg
   ·rcases List.mem_cons.1 h with rfl | h
    ·exact ⟨by rw [show (⟨s.C,l2,s.t,s.m,s.S⟩:Sg).l.length=s.l.length from hlen];exact (show rowF (pt u s.l.length) (ic l2)∈rowF (pt u s.l.length) (ic l2)::(y.fsN v++sgF x s) from .head _),fun g hg=>.inl (f_u g hg)⟩
    ·exact ⟨(show φ∈rowF (pt u s.l.length) (ic l2)::(y.fsN v++sgF x s) from .tail _ (List.mem_append_right _ (.tail _ h))),new_old (List.mem_append_right _ (.tail _ h))⟩
 ·skip
  rw [if_neg (show ¬ v.i+1=s.l.length by have h2:(v.i+1==(s.l.length:Int))=false:=h1;simpa using h2)]
  conv=>arg 5;whnf
  refine wp_back fun β ρ w' hM'=>et_mk (r:=⟨⟨v.ph,v.i+1,v.t,v.P,v.N⟩,⟨s.C,l2,s.t,s.m,s.S⟩,[],false⟩) ⟨y,⟨u,c_u,x.sa,x.sc,x.S⟩,none,0⟩ ⟨hy,⟨h_u,hx.2⟩,sl0⟩ (by unfold Ea.v2 sgV;rw [hlen];rfl) hM' fun φ hφ g hg=>?_
  rcases List.mem_cons.1 hφ with rfl | hφ
  ·cases hg
  ·rcases List.mem_append.1 hφ with h | h
   ·exact ⟨(show φ∈rowF (pt u s.l.length) (ic l2)::(y.fsN v++sgF x s) from .tail _ (List.mem_append_left _ h)),new_old (List.mem_append_left _ h)⟩
   ·rcases List.mem_cons.1 h with rfl | h
    ·exact ⟨by rw [show (⟨s.C,l2,s.t,s.m,s.S⟩:Sg).l.length=s.l.length from hlen];exact (show rowF (pt u s.l.length) (ic l2)∈rowF (pt u s.l.length) (ic l2)::(y.fsN v++sgF x s) from .head _),fun g hg=>.inl (f_u g hg)⟩
    ·exact ⟨(show φ∈rowF (pt u s.l.length) (ic l2)::(y.fsN v++sgF x s) from .tail _ (List.mem_append_right _ (.tail _ h))),new_old (List.mem_append_right _ (.tail _ h))⟩
end Go.Proofs.YtfhgkkcpkcjbmaaGreatDoor.evict
namespace Go.Proofs.YtfhgkkcpkcjbmaaGreatDoor.evict
open Go.RowKit Sx txn queue greedy shard pool Go.Proofs.YtfhgkkcpkcjbmaaGreatDoor.look lock Go.Proofs.YtfhgkkcpkcjbmaaGreatDoor.task
def Ea.v1 (a:Ea) (r:Er):Value:=sgV r.s a.x
def applyE (v:Ek) (s:Sg) (κ:Nat) (Q:List PA) (n:Int):Er:=⟨v,⟨s.C,s.l,s.t,s.m,s.S.set κ (setP Q (v.P.s,v.P.b,v.P.l),nextV n)⟩,[],false⟩
theorem apply_no (v:Ek) (y:Pn) (s:Sg) (x:Sn) (w:World) (hκ:fnv.shardV v.t.s s.C.sh<0) :
  Calls Tryz.prog 68 (List.toArray [ekV v y,sgV s x]) w fun e w'=>e=.returned (sgV s x)∧Below w.heap.size w w':=by
 have SH:=fun w=>shardOf v.t s x w
 refine calls_of_exec (Env.Ok.howD Sxe.env_ok.keeps.soon_ [(120,.fresh 125 2)]) Tryz.func68 rfl [(5,(lineT [0,1,2,3,4,5,6,7,8,9,10,11,12] [13],[]))] (schedQ_ok _ _ (by kernel_rfl)) [] (by simp) ?_
 conv=>arg 5;whnf
 refine meetc (f:=126) (v:=.int .i64 (fnv.shardV v.t.s s.C.sh)) rfl (by kernel_rfl) (fun β ρ w' hM'=>SH w') ?_
 conv=>arg 5;whnf
 refine wp_br (fun _=>?_) (fun h=>absurd hκ (of_decide_eq_false h))
 conv=>arg 5;whnf
 exact wp_back fun β ρ w' hM'=>⟨rfl,hM'.below⟩
theorem apply_yes (v:Ek) (y:Pn) (s:Sg) (x:Sn) (κ:Nat) (q:Shd) (w:World) (hM:Most w) (hy:y.ok v.P) (hyf:∀φ∈y.fsN v,∀g,φ.g=some g→∃o,w.heap[g]?=some o∧φ.holds o) (hx:Sgo x s) (hxf:∀φ∈sgF x s,∀g,φ.g=some g→∃o,w.heap[g]?=some o∧φ.holds o) (hκ:fnv.shardV v.t.s s.C.sh=κ) (hq:x.S[κ]?=some q) (hq1:q.n≤100000) (hS1:x.S.length≤1000000) (hPl:v.P.l.length≤1000000) (hPd:∀z∈v.P.l,z.d.size≤maxLen) :
  Calls Tryz.prog 68 (List.toArray [ekV v y,sgV s x]) w fun e w'=>Et Ea.v1 w w' (y.fsN v++sgF x s) e (applyE v s κ (q.L.map acP) q.v):=by
 have SH:=fun w=>shardOf v.t s x w
 rw [hκ] at SH
 have hqm:=List.mem_of_getElem? hq
 have hlt:κ<x.S.length:=(List.getElem?_eq_some_iff.1 hq).1
 have ST:=fun w hA hr=>shard.set q.v q.L q.a q.n q.c v.P.s v.P.b v.P.l y.a v.P.l.length y.c w hA hq1 hy.1 rfl hPl hPd hr
 refine calls_of_exec (Env.Ok.howD Sxe.env_ok.keeps.soon_ [(120,.fresh 125 2)]) Tryz.func68 rfl [(5,(lineT [0,1,2,3,4,5,6,7,8,9,10,11,12] [13],[]))] (schedQ_ok _ _ (by kernel_rfl)) (y.fsN v++sgF x s) (fun φ hφ g hg=>(List.mem_append.1 hφ).elim (fun h=>hyf φ h g hg) (fun h=>hxf φ h g hg)) ?_
 conv=>arg 5;whnf
 refine meetc (f:=126) (v:=.int .i64 κ) rfl (by kernel_rfl) (fun β ρ w' hM'=>SH w') ?_
 conv=>arg 5;whnf
 refine meetM x.S.length (cellsS x.S) rfl (by kernel_rfl) (fun β ρ w' hM'=>cloneS x.S x.sa x.S.length x.sc w' hx.2.1 rfl (hM'.at_ (show rowF (pt x.sa x.S.length) (cellsS x.S)∈(y.fsN v++sgF x s) from List.mem_append_right _ (.tail _ (.head _)))) hS1) ?_
 conv=>arg 5;whnf
 refine wp_must ⟨by omega,by show (κ:Int)<(x.S.length:Int);omega⟩ ?_
 conv=>arg 5;whnf
 refine ⟨q.cs,rfl,fun j u hu=>cellsS_at hq j u hu,?_⟩
 conv=>arg 5;whnf
 refine meetSh (f:=129) (setP (q.L.map acP) (v.P.s,v.P.b,v.P.l)) (nextV q.v) rfl (by kernel_rfl) (fun β ρ w' hM'=>ST w' (acs_of hM' (hx.2.2.1 q hqm).1 (hx.2.2.1 q hqm).2.1 (hx.2.2.1 q hqm).2.2 fun φ hφ=>(show φ∈(y.fsN v++sgF x s) from List.mem_append_right _ (.tail _ (.tail _ (List.mem_flatMap.2 ⟨q,hqm,hφ⟩))))) (hM'.at_ (show rowF (pt y.a v.P.l.length) (cellsL v.P.l)∈(y.fsN v++sgF x s) from List.mem_append_left _ (.head _)))) (fun Ls u c_u hLm hLf h_u hnew=>?_)
 conv=>arg 5;whnf
 refine wp_must ⟨by omega,by show (κ:Int)<(x.S.length:Int);omega⟩ ?_
 have es:spl (cellsS x.S) (κ*2) (⟨u,Ls.length,c_u,Ls,nextV q.v⟩:Shd).cs=cellsS (x.S.set κ ⟨u,Ls.length,c_u,Ls,nextV q.v⟩):=spl_shd _ hlt
 conv=>arg 5;whnf
 refine wp_must (by show κ*2+2≤(cellsS x.S).length;rw [cellsS_len];omega) ?_
 conv=>arg 5;whnf
 refine wp_share fun z c_z h_z f_z=>?_
 have hset:(x.S.set κ ⟨u,Ls.length,c_u,Ls,nextV q.v⟩).length=x.S.length:=List.length_set
 have hSn:∀r∈x.S.set κ ⟨u,Ls.length,c_u,Ls,nextV q.v⟩,r∈x.S∨r=⟨u,Ls.length,c_u,Ls,nextV q.v⟩:=fun r hr=>List.mem_or_eq_of_mem_set hr
 have hmap:(x.S.set κ ⟨u,Ls.length,c_u,Ls,nextV q.v⟩).map shdP=s.S.set κ (setP (q.L.map acP) (v.P.s,v.P.b,v.P.l),nextV q.v):=by
  rw [List.map_set,hx.2.2.2]
  show s.S.set κ (Ls.map acP,nextV q.v)=_
  rw [hLm]
 conv=>arg 5;whnf
 refine wp_back fun β ρ w' hM'=>et_mk (r:=applyE v s κ (q.L.map acP) q.v) ⟨y,⟨x.la,x.lc,z,c_z,x.S.set κ ⟨u,Ls.length,c_u,Ls,nextV q.v⟩⟩,none,0⟩ ⟨hy,⟨hx.1,by rw [hset];exact h_z,fun r hr=>(hSn r hr).elim (fun h=>hx.2.2.1 r h) (fun h=>by subst h;exact ⟨h_u,rfl,hLf⟩),hmap⟩,sl0⟩ (by unfold Ea.v1 sgV;rw [hset];rfl) hM' fun φ hφ g hg=>?_
 rcases List.mem_cons.1 hφ with rfl | hφ
 ·cases hg
 ·rcases List.mem_append.1 hφ with h | h
  ·exact ⟨(show φ∈_::(acsF u Ls.length Ls++(y.fsN v++sgF x s)) from .tail _ (List.mem_append_right _ (List.mem_append_left _ h))),new_old (List.mem_append_left _ h)⟩
  ·rcases List.mem_cons.1 h with rfl | h
   ·exact ⟨(show _∈_::(acsF u Ls.length Ls++(y.fsN v++sgF x s)) from .tail _ (List.mem_append_right _ (List.mem_append_right _ (.head _)))),new_old (List.mem_append_right _ (.head _))⟩
   ·rcases List.mem_cons.1 h with rfl | h
    ·have e:rowF (pt z (x.S.set κ ⟨u,Ls.length,c_u,Ls,nextV q.v⟩).length) (cellsS (x.S.set κ ⟨u,Ls.length,c_u,Ls,nextV q.v⟩))=rowF z (spl (cellsS x.S) (κ*2) (⟨u,Ls.length,c_u,Ls,nextV q.v⟩:Shd).cs):=by rw [hset,pt_pos hlt,es]
     refine ⟨by rw [show rowF _ _=_ from e];exact List.Mem.head _,fun g hg=>?_⟩
     rw [show (rowF _ _).g=(rowF z (spl (cellsS x.S) (κ*2) (⟨u,Ls.length,c_u,Ls,nextV q.v⟩:Shd).cs)).g from congrArg _ e] at hg
     cases z with
     | none=>cases hg
     | some ad=>
      obtain rfl:=Option.some.inj hg
      exact .inl ((f_z ad rfl).elim id (fun h=>by cases h))
    ·obtain ⟨r,hr,hφ⟩:=List.mem_flatMap.1 h
     rcases hSn r hr with hr | rfl
     ·exact ⟨(show φ∈_::(acsF u Ls.length Ls++(y.fsN v++sgF x s)) from .tail _ (List.mem_append_right _ (List.mem_append_right _ (.tail _ (.tail _ (List.mem_flatMap.2 ⟨r,hr,hφ⟩)))))),new_old (List.mem_append_right _ (.tail _ (.tail _ (List.mem_flatMap.2 ⟨r,hr,hφ⟩))))⟩
     ·exact ⟨(show φ∈_::(acsF u Ls.length Ls++(y.fsN v++sgF x s)) from .tail _ (List.mem_append_left _ hφ)),fun g hg=>.inl (hnew φ hφ g hg)⟩
end Go.Proofs.YtfhgkkcpkcjbmaaGreatDoor.evict
