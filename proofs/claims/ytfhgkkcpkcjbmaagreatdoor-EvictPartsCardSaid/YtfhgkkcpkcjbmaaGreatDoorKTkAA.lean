/- Layer 7 (pot), by contract: the program's, and the document's. -/
import Derived.Test.YtfhgkkcpkcjbmaaGreatDoorKPoAll
import Derived.Test.YtfhgkkcpkcjbmaaGreatDoorKEnvL
import Derived.Test.YtfhgkkcpkcjbmaaGreatDoorKPotFlt
import Derived.Laws.FloatArith
import Derived.WalkLawsBesides
import Derived.Test.YtfhgkkcpkcjbmaaGreatDoorKTkLk
import Derived.Test.YtfhgkkcpkcjbmaaGreatDoorKLkTop
set_option linter.all false
set_option maxHeartbeats 4000000
set_option maxRecDepth 100000
namespace Go.Proofs.YtfhgkkcpkcjbmaaGreatDoor.pot
open Go.RowKit Sx queue greedy shard flt
theorem retB {x y:Bool} (h:x=y):Ending.returned (tup [.bool x])=.returned (.bool y):=by rw [h];rfl
def mayB (t m:Int):Bool:=decide (1≤m∧m≤1000∧0≤t∧t≤m)
theorem may_iff (t m:Int):mayB t m=true↔1≤m∧m≤1000∧0≤t∧t≤m:=by simp [mayB]
def adjT (t m d:Int):Int:=if mayB t m=true∧-t≤d∧d≤m - t then t+d else t
def adjE (t m d:Int):Int:=if ¬ (mayB t m=true∧-t≤d) then 1 else if d≤m - t then 0 else 6
def newM (n:Int):Int:=if 1≤n∧n≤1000 then n else 0
def newE (n:Int):Int:=if 1≤n∧n≤1000 then 0 else 1
def two (a b:Int):Value:=.agg #[.int .i64 a,.int .i64 b]
theorem within (a b:Int) (w:World):Calls Tryz.prog 227 (List.toArray [.int .i64 a,.int .i64 b]) w fun e w'=>e=.returned (.bool (decide (0≤a∧a≤b)))∧Below w.heap.size w w':=by
 refine calls_of_exec Sxt.env_ok Tryz.func227 rfl [] (by kernel_rfl) [] (by simp) ?_
 repeat' (first
  | (refine wp_g1 (fun h=>?_) (fun h=>?_))
  | exact wp_back fun β ρ w' hM=>⟨retB (by rw [Bool.eq_iff_iff];simp at *;omega),hM.below⟩)
theorem add (a b c:Int) (w:World) (hc:0≤c) (hc':c≤1000):Calls Tryz.prog 187 (List.toArray [.int .i64 a,.int .i64 b,.int .i64 c]) w fun e w'=>e=.returned (.tuple #[.int .i64 (if 0≤a∧a≤c∧0≤b∧b≤c - a then a+b else 0),.bool (decide (0≤a∧a≤c∧0≤b∧b≤c - a))])∧Below w.heap.size w w':=by
 refine calls_of_exec Sxt.env_ok Tryz.func187 rfl [] (by kernel_rfl) [] (by simp) ?_
 refine meetc rfl (by kernel_rfl) (fun β ρ w' hM=>within a c w') ?_
 refine wp_g0 (fun h1=>?_) (fun h1=>?_)
 ·simp at h1
  refine wp_must (by omega) ?_
  refine meetc rfl (by kernel_rfl) (fun β ρ w' hM=>within b (c - a) w') ?_
  refine wp_br (fun h2=>?_) (fun h2=>?_)
  ·simp at h2
   exact wp_back fun β ρ w' hM=>⟨by rw [decide_eq_false (by omega),if_neg (by omega)];rfl,hM.below⟩
  ·simp at h2
   refine wp_must (by omega) ?_
   exact wp_back fun β ρ w' hM=>⟨by rw [decide_eq_true (by omega),if_pos (by omega)];rfl,hM.below⟩
 ·simp at h1
  exact wp_back fun β ρ w' hM=>⟨by rw [decide_eq_false (by omega),if_neg (by omega)];rfl,hM.below⟩
theorem may (t m:Int) (w:World):Calls Tryz.prog 152 (List.toArray [two t m]) w fun e w'=>e=.returned (.bool (mayB t m))∧Below w.heap.size w w':=by
 refine calls_of_exec Sxt.env_ok Tryz.func152 rfl [] (by kernel_rfl) [] (by simp) ?_
 repeat' (first
  | (refine wp_g1 (fun h=>?_) (fun h=>?_))
  | exact wp_back fun β ρ w' hM=>⟨retB (by rw [Bool.eq_iff_iff];simp [mayB] at *;omega),hM.below⟩)
def cx (a b:Nat):Value:=.complex .f64 (fw a) (fw b)
theorem parts (t m:Int) (w:World) (h:mayB t m=true):Calls Tryz.prog 189 (List.toArray [two t m]) w fun e w'=>e=.returned (cx t.toNat (m - t).toNat)∧Below w.heap.size w w':=by
 rw [may_iff] at h
 refine calls_of_exec Sxt.env_ok Tryz.func189 rfl [] (by kernel_rfl) [] (by simp) ?_
 refine wp_prim (.float .f64 (floatOfInt .f64 t)) (fun w=>by kernel_rfl) ?_
 refine wp_must (by omega) ?_
 refine wp_prim (.float .f64 (floatOfInt .f64 (m - t))) (fun w=>by kernel_rfl) ?_
 refine wp_prim (cx t.toNat (m - t).toNat) (fun w=>by rw [ofInt_fw _ (by omega),ofInt_fw _ (by omega)];rfl) ?_
 exact wp_back fun β ρ w' hM=>⟨rfl,hM.below⟩
theorem back (n:Nat) (w:World) (h:n≤1000):(do pure (Next.value (← convert 247 3 (.float .f64 (fw n)))):Sem Next).run Tryz.prog w=.ok (.value (.int .i64 n)) w:=by
 have hu:(Tryz.prog.underlying 247).isSome=true:=by kernel_rfl
 exact run_val (run_convert_float_int (P:=Tryz.prog) w 247 3 .f64 .i64 (fw n) n hu Tryz.underlying3 (back_fw n (by omega))) Next.value
theorem of_ (a b:Nat) (w:World) (h:a+b≤1000):Calls Tryz.prog 188 (List.toArray [cx a b]) w fun e w'=>e=.returned (two a (a+b))∧Below w.heap.size w w':=by
 refine calls_of_exec Sxt.env_ok Tryz.func188 rfl [] (by kernel_rfl) [] (by simp) ?_
 refine wp_prim (.float .f64 (fw a)) (fun w=>by rfl) ?_
 refine wp_prim (.int .i64 a) (fun w=>back a w (by omega)) ?_
 refine wp_prim (.float .f64 (fw b)) (fun w=>by rfl) ?_
 refine wp_prim (.int .i64 b) (fun w=>back b w (by omega)) ?_
 refine wp_must (by omega) ?_
 exact wp_back fun β ρ w' hM=>⟨rfl,hM.below⟩
theorem adjust (t m d:Int) (w:World) (hd:Fits d):Calls Tryz.prog 128 (List.toArray [two t m,.int .i64 d]) w fun e w'=>e=.returned (.tuple #[two (adjT t m d) m,.int .i64 (adjE t m d)])∧Below w.heap.size w w':=by
 unfold Fits at hd
 have no:¬ (mayB t m=true∧-t≤d)→adjT t m d=t∧adjE t m d=1:=fun h=>⟨if_neg (fun h'=>h ⟨h'.1,h'.2.1⟩),if_pos h⟩
 refine calls_of_exec Sxt.env_ok Tryz.func128 rfl [] (by kernel_rfl) [] (by simp) ?_
 refine meetc rfl (by kernel_rfl) (fun β ρ w' hM=>may t m w') ?_
 cases hm:mayB t m with
 | false=>
  obtain ⟨e1,e2⟩:=no (by simp [hm])
  exact wp_back fun β ρ w' hM=>⟨by rw [e1,e2];rfl,hM.below⟩
 | true=>
  have hm':=(may_iff t m).1 hm
  refine wp_must (by omega) ?_
  refine wp_br (fun h=>?_) (fun h=>?_)
  ·obtain ⟨e1,e2⟩:=no (by simp at h;omega)
   exact wp_back fun β ρ w' hM=>⟨by rw [e1,e2];rfl,hM.below⟩
  ·simp at h
   refine wp_prim (.int .i64 (max d 0)) (fun w=>by simp [Builtin.max_,Builtin.max2,Sem.run_bind];split <;> omega) ?_
   refine meetc rfl (by kernel_rfl) (fun β ρ w' hM=>add t (max d 0) m w' (by omega) (by omega)) ?_
   refine wp_br (fun h2=>?_) (fun h2=>?_)
   ·simp at h2
    exact wp_back fun β ρ w' hM=>⟨by
     rw [show adjT t m d=t from if_neg (by omega),show adjE t m d=6 from by unfold adjE;rw [if_neg (by simp [hm];omega),if_neg (by omega)]];rfl,hM.below⟩
   ·simp at h2
    refine meetc rfl (by kernel_rfl) (fun β ρ w' hM=>parts t m w' hm) ?_
    refine wp_prim (.float .f64 (floatOfInt .f64 d)) (fun w=>by kernel_rfl) ?_
    refine wp_prim (.float .f64 (floatOfInt .f64 d)) (fun w=>by kernel_rfl) ?_
    refine wp_prim (.float .f64 (Op.negFloat .f64 (floatOfInt .f64 d))) (fun w=>by rfl) ?_
    refine wp_prim (.complex .f64 (floatOfInt .f64 d) (Op.negFloat .f64 (floatOfInt .f64 d))) (fun w=>by rfl) ?_
    refine wp_prim (cx (t+d).toNat (m - (t+d)).toNat) (fun w=>by
     have:=sum_sw t (m - t) d d (t+d).toNat (m - (t+d)).toNat (by omega) (by omega) (by omega) (by omega) (by omega) (by omega) (by omega) (by omega) Tryz.prog w 245
     exact run_val this Next.value) ?_
    refine meetc rfl (by kernel_rfl) (fun β ρ w' hM=>of_ (t+d).toNat (m - (t+d)).toNat w' (by omega)) ?_
    exact wp_back fun β ρ w' hM=>⟨by
     rw [show adjT t m d=t+d from if_pos ⟨hm,by omega,by omega⟩,show adjE t m d=0 from by unfold adjE;rw [if_neg (by simp [hm];omega),if_pos (by omega)],
      show (((t+d).toNat:Nat):Int)=t+d from by omega,show t+d+(((m - (t+d)).toNat:Nat):Int)=m from by omega];rfl,hM.below⟩
theorem new_ (n:Int) (w:World):Calls Tryz.prog 98 (List.toArray [.int .i64 n]) w fun e w'=>e=.returned (.tuple #[two 0 (newM n),.int .i64 (newE n)])∧Below w.heap.size w w':=by
 refine calls_of_exec Sxt.env_ok Tryz.func98 rfl [] (by kernel_rfl) [] (by simp) ?_
 refine meetc rfl (by kernel_rfl) (fun β ρ w' hM=>may 0 n w') ?_
 refine wp_br (fun h=>?_) (fun h=>?_)
 ·have h':¬ (1≤n∧n≤1000):=by simp [mayB] at h;omega
  exact wp_back fun β ρ w' hM=>⟨by unfold newM newE;rw [if_neg h',if_neg h'];rfl,hM.below⟩
 ·have h':1≤n∧n≤1000:=by simp [mayB] at h;omega
  exact wp_back fun β ρ w' hM=>⟨by unfold newM newE;rw [if_pos h',if_pos h'];rfl,hM.below⟩
end Go.Proofs.YtfhgkkcpkcjbmaaGreatDoor.pot
namespace Go.Proofs.YtfhgkkcpkcjbmaaGreatDoor.shard
open Go.RowKit Sx txn queue greedy
def Shs (w:World) (a:Option Addr) (n c:Nat) (S:List Shd):Prop:=Sl a n c∧n=S.length∧At w (pt a n) (cellsS S)∧∀q∈S,Acs w q.a q.n q.c q.L
def shsF (a:Option Addr) (n:Nat) (S:List Shd):List Fact:=rowF (pt a n) (cellsS S)::S.flatMap fun q=>acsF q.a q.n q.L
theorem Shs.facts {w:World} {a n c S} (h:Shs w a n c S):∀φ∈shsF a n S,∀g,φ.g=some g→∃o,w.heap[g]?=some o∧φ.holds o:=by
 intro φ hφ
 rcases List.mem_cons.1 hφ with rfl | hφ
 ·exact h.2.2.1
 ·obtain ⟨q,hq,hφ⟩:=List.mem_flatMap.1 hφ
  exact (h.2.2.2 q hq).facts φ hφ
end Go.Proofs.YtfhgkkcpkcjbmaaGreatDoor.shard
namespace Go.Proofs.YtfhgkkcpkcjbmaaGreatDoor.task
open Go.RowKit Sx txn queue greedy shard pool Go.Proofs.YtfhgkkcpkcjbmaaGreatDoor.look lock
structure Sg where
 C:Cf
 l:List Int
 t:Int
 m:Int
 S:List (List PA×Int)
structure Sn where
 la:Option Addr
 lc:Nat
 sa:Option Addr
 sc:Nat
 S:List Shd
def shdP (q:Shd):List PA×Int:=(q.L.map acP,q.v)
def sgV (s:Sg) (x:Sn):Value:=.agg #[.int .i64 s.C.sh,.int .i64 s.C.so,.int .i64 s.C.hd,.int .i64 s.C.per,.int .i64 s.C.bp,.int .i64 s.C.fd,.int .i64 s.C.wk,.int .i64 s.C.rm,.slice x.la s.l.length x.lc,.int .i64 s.t,.int .i64 s.m,.slice x.sa x.S.length x.sc]
def Sgs (w:World) (x:Sn) (s:Sg):Prop:=(Sl x.la s.l.length x.lc∧At w (pt x.la s.l.length) (ic s.l))∧Shs w x.sa x.S.length x.sc x.S∧x.S.map shdP=s.S
def sgF (x:Sn) (s:Sg):List Fact:=rowF (pt x.la s.l.length) (ic s.l)::shsF x.sa x.S.length x.S
structure Tk where
 O:Oq
 ph:Int
 s:Int
 P:Pl
 r:Rq
 pt:Bool
structure Tn where
 x:Pn
 a:Option Addr
 c:Nat
def tkV (t:Tk) (y:Tn):Value:=.agg #[.int .i64 t.O.k,.int .i64 t.O.s,.int .i64 t.O.v,.int .i64 t.O.g,.string t.O.d,.int .i64 t.ph,.int .i64 t.s,.bool t.P.ch,.int .i64 t.P.dl,.int .i64 t.P.s,.int .i64 t.P.b,.slice y.x.a t.P.l.length y.x.c,.slice y.x.ea t.P.ev.length y.x.ec,.int .i64 t.P.r.e,.int .i64 t.P.r.t.s,.int .i64 t.P.r.t.n,.int .i64 t.P.r.t.t,.int .i64 t.P.r.t.c,.int .i64 t.P.r.t.g,.string t.P.r.t.d,.slice y.x.ta t.P.r.l.length y.x.tc,.int .i64 t.P.r.n,.int .i64 t.r.e,.int .i64 t.r.t.s,.int .i64 t.r.t.n,.int .i64 t.r.t.t,.int .i64 t.r.t.c,.int .i64 t.r.t.g,.string t.r.t.d,.slice y.a t.r.l.length y.c,.int .i64 t.r.n,.bool t.pt]
def Tn.fs (y:Tn) (t:Tk):List Fact:=y.x.fs t.P++[rowF (pt y.a t.r.l.length) (cellsL t.r.l)]
def okK (s:Sg) (k:Nat):Bool:=match s.l[k]?,s.S[k]? with
 | some z,some q=>!decide (z<0)&&shCheck q.2 q.1 k s.C.sh s.C.per
 | _,_=>false
def allB (s:Sg) (n:Nat):Bool:=(List.range n).all (okK s)
theorem allB_succ (s:Sg) (n:Nat):allB s (n+1)=(allB s n&&okK s n):=by unfold allB;rw [List.range_succ,List.all_append];simp
theorem allB_lt {s:Sg} {n k:Nat} (h:okK s k=false) (hk:k<n):allB s n=false:=by
 cases e:allB s n with
 | false=>rfl
 | true=>
  unfold allB at e
  have:=List.all_eq_true.1 e k (List.mem_range.2 hk)
  rw [h] at this
  cases this
def mayS (s:Sg):Bool:=cfgB s.C&&decide ((s.l.length:Int)=s.C.sh)&&decide ((s.S.length:Int)=s.C.sh)&&allB s s.S.length&&decide (s.m=s.C.hd∧0≤s.t∧s.t≤s.C.hd)
theorem new (O:Oq) (w:World):Calls Tryz.prog 52 (List.toArray [O.val]) w fun e w'=>e=.returned (tkV ⟨O,0,0,failL 0,⟨0,tx0,[],0⟩,false⟩ ⟨⟨none,0,none,0,none,0⟩,none,0⟩)∧Below w.heap.size w w':=by
 refine calls_of_exec Sxt.env_ok.keeps.soon_ Tryz.func52 rfl [] (schedQ_ok _ _ (by kernel_rfl)) [] (by simp) ?_
 conv=>arg 5;whnf
 exact wp_back fun β ρ w' hM'=>⟨rfl,hM'.below⟩
theorem shardOf (t:Tk) (y:Tn) (s:Sg) (x:Sn) (w:World):Calls Tryz.prog 154 (List.toArray [tkV t y,sgV s x]) w fun e w'=>e=.returned (.int .i64 (fnv.shardV t.s s.C.sh))∧Below w.heap.size w w':=by
 refine calls_of_exec Sxt.env_ok.keeps.soon_ Tryz.func154 rfl [] (schedQ_ok _ _ (by kernel_rfl)) [] (by simp) ?_
 conv=>arg 5;whnf
 refine meetc (f:=174) (v:=.int .i64 (fnv.shardV t.s s.C.sh)) rfl (by kernel_rfl) (fun β ρ w' hM'=>fnv.shard_any t.s s.C.sh w') ?_
 conv=>arg 5;whnf
 exact wp_back fun β ρ w' hM'=>⟨rfl,hM'.below⟩
theorem may (s:Sg) (x:Sn) (w:World) (hM:Most w) (hS:Sgs w x s) (hq:∀q∈x.S,q.n≤1000000):Calls Tryz.prog 74 (List.toArray [sgV s x]) w fun e w'=>e=.returned (.bool (mayS s))∧Below w.heap.size w w':=by
 obtain ⟨⟨hl,hlr⟩,⟨hs,hsn,hsr,hsA⟩,hSm⟩:=hS
 have hSl:s.S.length=x.S.length:=by rw [← hSm,List.length_map]
 have CF:=fun w=>config s.C w
 have hle:=hl.le
 have hse:=hs.le
 refine calls_of_exec Sxt.env_ok.keeps.soon_ Tryz.func74 rfl [(7,(line [0,1,2,3,4,5,6,7,8,9,10,11,12,13,14,15,16,17],[]))] (schedQ_ok _ _ (by kernel_rfl)) (sgF x s) (fun φ hφ g hg=>(List.mem_cons.1 hφ).elim (fun e=>by subst e;exact hlr g hg) (fun h=>Shs.facts ⟨hs,hsn,hsr,hsA⟩ φ h g hg)) ?_
 cases hcf:cfgB s.C with
 | false=>
  rw [hcf] at CF
  have e:mayS s=false:=by unfold mayS;rw [hcf];rfl
  rw [e]
  conv=>arg 5;whnf
  refine meetc (f:=96) (v:=.bool false) rfl (by kernel_rfl) (fun β ρ w' hM'=>CF w') ?_
  conv=>arg 5;whnf
  exact wp_back fun β ρ w' hM'=>⟨rfl,hM'.below⟩
 | true=>
  rw [hcf] at CF
  conv=>arg 5;whnf
  refine meetc (f:=96) (v:=.bool true) rfl (by kernel_rfl) (fun β ρ w' hM'=>CF w') ?_
  conv=>arg 5;whnf
  refine wp_g0 (fun h1=>?_) (fun h1=>?_)
  rotate_left
  ·have h2:¬ (s.l.length:Int)=s.C.sh:=by have:(!((s.l.length:Int)==s.C.sh))=true:=h1;simpa using this
   have e:mayS s=false:=by unfold mayS;rw [decide_eq_false h2];simp
   rw [e]
   conv=>arg 5;whnf
   exact wp_back fun β ρ w' hM'=>⟨rfl,hM'.below⟩
  have h2:(s.l.length:Int)=s.C.sh:=by have:(!((s.l.length:Int)==s.C.sh))=false:=h1;simpa using this
  conv=>arg 5;whnf
  refine wp_br (fun h3=>?_) (fun h3=>?_)
  ·have h4:¬ (x.S.length:Int)=s.C.sh:=by have:(!((x.S.length:Int)==s.C.sh))=true:=h3;simpa using this
   have e:mayS s=false:=by unfold mayS;rw [hSl,decide_eq_false h4];simp
   rw [e]
   conv=>arg 5;whnf
   exact wp_back fun β ρ w' hM'=>⟨rfl,hM'.below⟩
  have h4:(x.S.length:Int)=s.C.sh:=by have:(!((x.S.length:Int)==s.C.sh))=false:=h3;simpa using this
  have hc8:s.C.sh≤8:=by unfold cfgB at hcf;have:=of_decide_eq_true hcf;omega
  conv=>arg 5;whnf
  refine loop_rule Sxt.env_ok.keeps.soon_ [(7,(line [0,1,2,3,4,5,6,7,8,9,10,11,12,13,14,15,16,17],[]))] (schedQ_ok _ _ (by kernel_rfl)) (fun k:Nat=>k≤x.S.length∧allB s k=true) (fun k=>(⟨[some ([.v (.int .i64 s.C.sh),.v (.int .i64 s.C.so),.v (.int .i64 s.C.hd),.v (.int .i64 s.C.per),.v (.int .i64 s.C.bp),.v (.int .i64 s.C.fd),.v (.int .i64 s.C.wk),.v (.int .i64 s.C.rm),.v (.slice x.la s.l.length x.lc),.v (.int .i64 s.t),.v (.int .i64 s.m),.v (.slice x.sa x.S.length x.sc)],56)],[],sgF x s⟩,[.any,.p 0 0,.v (.bool false),.v (.int .i64 s.C.sh),.any,.any,.any,.any,.any,.any,.any,.any,.any,.any,.any,.any,.any,.any,.any,.any,.any,.any,.any,.any,.any,.any,.v (.int .i64 s.C.sh),.v (.int .i64 k),.any,.any,.any,.any,.any,.any,.any,.any,.any,.any,.any,.any,.any,.any,.any,.any,.any,.any,.any,.any,.any,.any,.any,.any,.any,.any,.any,.any,.any,.any,.any,.any,.any,.any,.any,.any,.any,.any,.any,.any,.any,.any,.any])) (fun k=>x.S.length - k) 0 ⟨Nat.zero_le _,rfl⟩ ⟨by repeat' first | exact trivial | refine ⟨.inl rfl,?_⟩ | refine ⟨.inr rfl,?_⟩,⟨by repeat' first | exact trivial | refine ⟨.inl rfl,?_⟩ | refine ⟨.inr rfl,?_⟩,by repeat' first | exact trivial | refine ⟨.inl rfl,?_⟩ | refine ⟨.inr rfl,?_⟩,fun _ h=>h⟩,rfl⟩ ?_
  rintro k ⟨hk,hall⟩
  conv=>arg 5;whnf
  refine wp_br (fun h5=>?_) (fun h5=>?_)
  ·have hlt:k<x.S.length:=by have h6:(k:Int)<s.C.sh:=of_decide_eq_true h5;omega
   obtain ⟨z,hz⟩:∃z,s.l[k]?=some z:=⟨_,List.getElem?_eq_getElem (by omega)⟩
   obtain ⟨q,hq1⟩:∃q,x.S[k]?=some q:=⟨_,List.getElem?_eq_getElem (by omega)⟩
   have hqm:=List.mem_of_getElem? hq1
   have hok:okK s k=(!decide (z<0)&&shCheck q.v (q.L.map acP) k s.C.sh s.C.per):=by unfold okK;rw [hz,← hSm,List.getElem?_map,hq1];rfl
   have CK:=fun w hM hA=>shard.check q.v q.L q.a q.n q.c k s.C.sh s.C.so s.C.hd s.C.per s.C.bp s.C.fd s.C.wk s.C.rm w hM hA (hq q hqm)
   generalize shCheck q.v (q.L.map acP) k s.C.sh s.C.per=ck at *
   conv=>arg 5;whnf
   refine wp_must ⟨by omega,by show (k:Int)<(s.l.length:Int);omega,hl.some (show k<s.l.length by omega)⟩ ?_
   conv=>arg 5;whnf
   refine readF (sz:=1) (k:=k) (f:=0) (.int .i64 z) rfl (.head _) (show k<s.l.length by omega) (hl.some (show k<s.l.length by omega)) (by rw [show k*1+0=k by omega];exact ic_get hz) rfl ?_
   conv=>arg 5;whnf
   refine wp_g0 (fun h6=>?_) (fun h6=>?_)
   rotate_left
   ·rw [h6] at hok
    have e:mayS s=false:=by unfold mayS;rw [hSl,allB_lt (n:=x.S.length) (k:=k) (by rw [hok];rfl) hlt];simp
    rw [e]
    conv=>arg 5;whnf
    exact wp_back fun β ρ w' hM'=>⟨rfl,hM'.below⟩
   rw [h6] at hok
   conv=>arg 5;whnf
   refine wp_must ⟨by omega,by show (k:Int)<(x.S.length:Int);omega,hs.some hlt⟩ ?_
   conv=>arg 5;whnf
   refine readG Sxt.env_ok (vs:=q.cs) (sz:=2) (k:=k) rfl rfl (.tail _ (.head _)) hlt (hs.some hlt) (cellsS_at hq1) rfl ?_
   conv=>arg 5;whnf
   refine meetc (f:=115) (v:=.bool ck) rfl (by kernel_rfl) (fun β ρ w' hM'=>CK w' (hM.later hM'.below) (Mem.acs (hsA q hqm) hM' fun φ hφ=>(show φ∈sgF x s from .tail _ (.tail _ (List.mem_flatMap.2 ⟨q,hqm,hφ⟩))))) ?_
   cases ck with
   | false=>
    have e:mayS s=false:=by unfold mayS;rw [hSl,allB_lt (n:=x.S.length) (k:=k) (by rw [hok];rfl) hlt];simp
    rw [e]
    conv=>arg 5;whnf
    exact wp_back fun β ρ w' hM'=>⟨rfl,hM'.below⟩
   | true=>
    conv=>arg 5;whnf
    refine wp_must ⟨by show -9223372036854775808≤(k:Int)+1;omega,by show (k:Int)+1≤9223372036854775807;omega⟩ ?_
    conv=>arg 5;whnf
    refine wp_end ⟨k+1,⟨hlt,by rw [allB_succ,hall,hok];rfl⟩,⟨by repeat' first | exact trivial | refine ⟨.inl rfl,?_⟩ | refine ⟨.inr rfl,?_⟩,⟨by repeat' first | exact trivial | refine ⟨.inl rfl,?_⟩ | refine ⟨.inr rfl,?_⟩,by repeat' first | exact trivial | refine ⟨.inl rfl,?_⟩ | refine ⟨.inr rfl,?_⟩,fun _ h=>h⟩,rfl⟩,by show x.S.length - (k+1)<x.S.length - k;omega⟩
  ·have hkn:k=x.S.length:=by have h6:¬ (k:Int)<s.C.sh:=of_decide_eq_false h5;omega
   have e:mayS s=decide (s.m=s.C.hd∧0≤s.t∧s.t≤s.C.hd):=by unfold mayS;rw [hcf,decide_eq_true h2,hSl,decide_eq_true h4,← hkn,hall];rfl
   rw [e]
   conv=>arg 5;whnf
   refine wp_g1 (fun g0=>?_) (fun g0=>?_)
   rotate_left
   ·rw [decide_eq_false (fun h=>by have:(s.m==s.C.hd)=false:=g0;rw [h.1] at this;simp at this)]
    conv=>arg 5;whnf
    exact wp_back fun β ρ w' hM'=>⟨rfl,hM'.below⟩
   conv=>arg 5;whnf
   refine wp_g1 (fun g1=>?_) (fun g1=>?_)
   rotate_left
   ·rw [decide_eq_false (fun h=>of_decide_eq_false g1 h.2.1)]
    conv=>arg 5;whnf
    exact wp_back fun β ρ w' hM'=>⟨rfl,hM'.below⟩
   have e2:decide (s.m=s.C.hd∧0≤s.t∧s.t≤s.C.hd)=decide (s.t≤s.C.hd):=by
    have h7:s.m=s.C.hd:=by have:(s.m==s.C.hd)=true:=g0;simpa using this
    have h8:0≤s.t:=of_decide_eq_true g1
    rw [Bool.eq_iff_iff,decide_eq_true_eq,decide_eq_true_eq]
    exact ⟨fun h=>h.2.2,fun h=>⟨h7,h8,h⟩⟩
   rw [e2]
   conv=>arg 5;whnf
   exact wp_back fun β ρ w' hM'=>⟨rfl,hM'.below⟩
end Go.Proofs.YtfhgkkcpkcjbmaaGreatDoor.task
namespace Go.Proofs.YtfhgkkcpkcjbmaaGreatDoor.task
open Go.RowKit Sx txn queue greedy shard pool Go.Proofs.YtfhgkkcpkcjbmaaGreatDoor.look lock
def posI (v:Int):List Int→Nat→Int
 | [],_=>-1
 | x::l,k=>if v=x then (k:Int) else posI v l (k+1)
theorem posI_drop {v:Int} {l:List Int} {k:Nat} {x:Int} (h:l[k]?=some x):posI v (l.drop k) k=if v=x then (k:Int) else posI v (l.drop (k+1)) (k+1):=by
 obtain ⟨h1,h2⟩:=List.getElem?_eq_some_iff.1 h
 rw [List.drop_eq_getElem_cons h1,h2]
 rfl
theorem posI_has (v:Int):∀(l:List Int) (k:Nat),decide (posI v l k≥0)=l.contains v
 | [],k=>by simp [posI]
 | x::l,k=>by
  unfold posI
  by_cases h:v=x
  ·rw [if_pos h,List.contains_cons,beq_iff_eq.2 h,Bool.true_or]
   exact decide_eq_true (Int.natCast_nonneg k)
  ·rw [if_neg h,posI_has v l (k+1),List.contains_cons,beq_eq_false_iff_ne.2 h,Bool.false_or]
theorem index (l:List Int) (a:Option Addr) (n c:Nat) (v:Int) (w:World) (hs:Sl a n c) (hn:n=l.length) (hrow:At w (pt a n) (ic l)) :
  Calls Tryz.prog 136 (List.toArray [.slice a n c,.int .i64 v]) w fun e w'=>e=.returned (.int .i64 (posI v l 0))∧Below w.heap.size w w':=by
 have hn63:=hs.le
 refine calls_of_exec Sxt.env_ok.keeps.soon_ Tryz.func136 rfl [] (schedQ_ok _ _ (by kernel_rfl)) [rowF (pt a n) (ic l)] (at1 hrow) ?_
 conv=>arg 5;whnf
 refine loop_rule Sxt.env_ok.keeps.soon_ [] (schedQ_ok _ _ (by kernel_rfl)) (fun k:Nat=>k≤n∧posI v l 0=posI v (l.drop k) k) (fun k=>(⟨[],[],[rowF (pt a n) (ic l)]⟩,[.v (.slice a n c),.v (.int .i64 v),.any,.any,.any,.any,.any,.v (.int .i64 n),.v (.int .i64 k),.any,.any,.any,.any,.any,.any,.any,.any,.any,.any])) (fun k=>n - k) 0 ⟨Nat.zero_le _,rfl⟩ ⟨by repeat' first | exact trivial | refine ⟨.inl rfl,?_⟩ | refine ⟨.inr rfl,?_⟩,⟨by repeat' first | exact trivial | refine ⟨.inl rfl,?_⟩ | refine ⟨.inr rfl,?_⟩,by repeat' first | exact trivial | refine ⟨.inl rfl,?_⟩ | refine ⟨.inr rfl,?_⟩,fun _ h=>h⟩,rfl⟩ ?_
 rintro k ⟨hk,he⟩
 conv=>arg 5;whnf
 refine wp_br (fun h1=>?_) (fun h1=>?_)
 ·have hlt:k<n:=by have h3:=of_decide_eq_true (show decide ((k:Int)<(n:Int))=true from h1);omega
  obtain ⟨x,hx⟩:∃x,l[k]?=some x:=⟨_,List.getElem?_eq_getElem (by omega)⟩
  have hp:=posI_drop (v:=v) hx
  conv=>arg 5;whnf
  refine wp_must ⟨by omega,by show (k:Int)<(n:Int);omega,hs.some hlt⟩ ?_
  conv=>arg 5;whnf
  refine readF (sz:=1) (k:=k) (f:=0) (.int .i64 x) rfl (.head _) hlt (hs.some hlt) (by rw [show k*1+0=k by omega];exact ic_get hx) rfl ?_
  conv=>arg 5;whnf
  refine wp_br (fun h2=>?_) (fun h2=>?_)
  ·have h3:v=x:=by have:(v==x)=true:=h2;simpa using this
   rw [if_pos h3] at hp
   rw [he,hp]
   conv=>arg 5;whnf
   exact wp_back fun β ρ w' hM'=>⟨rfl,hM'.below⟩
  ·have h3:¬ v=x:=by have:(v==x)=false:=h2;simpa using this
   rw [if_neg h3] at hp
   conv=>arg 5;whnf
   refine wp_must ⟨by show -9223372036854775808≤(k:Int)+1;omega,by show (k:Int)+1≤9223372036854775807;omega⟩ ?_
   conv=>arg 5;whnf
   refine wp_end ⟨k+1,⟨hlt,by rw [he,hp]⟩,⟨by repeat' first | exact trivial | refine ⟨.inl rfl,?_⟩ | refine ⟨.inr rfl,?_⟩,⟨by repeat' first | exact trivial | refine ⟨.inl rfl,?_⟩ | refine ⟨.inr rfl,?_⟩,by repeat' first | exact trivial | refine ⟨.inl rfl,?_⟩ | refine ⟨.inr rfl,?_⟩,fun _ h=>h⟩,rfl⟩,by show n - (k+1)<n - k;omega⟩
 ·have hkn:k=n:=by have h3:=of_decide_eq_false (show decide ((k:Int)<(n:Int))=false from h1);omega
  have e:posI v l 0 = -1:=by rw [he,List.drop_of_length_le (by omega)];rfl
  rw [e]
  conv=>arg 5;whnf
  exact wp_back fun β ρ w' hM'=>⟨rfl,hM'.below⟩
theorem contains (l:List Int) (a:Option Addr) (n c:Nat) (v:Int) (w:World) (hs:Sl a n c) (hn:n=l.length) (hrow:At w (pt a n) (ic l)) :
  Calls Tryz.prog 78 (List.toArray [.slice a n c,.int .i64 v]) w fun e w'=>e=.returned (.bool (l.contains v))∧Below w.heap.size w w':=by
 rw [← posI_has v l 0]
 have IX:=fun w hr=>index l a n c v w hs hn hr
 generalize posI v l 0=p at *
 refine calls_of_exec Sxt.env_ok.keeps.soon_ Tryz.func78 rfl [] (schedQ_ok _ _ (by kernel_rfl)) [rowF (pt a n) (ic l)] (at1 hrow) ?_
 conv=>arg 5;whnf
 refine meetc (f:=136) (v:=.int .i64 p) rfl (by kernel_rfl) (fun β ρ w' hM'=>IX w' (hM'.at_ (.head _))) ?_
 conv=>arg 5;whnf
 exact wp_back fun β ρ w' hM'=>⟨rfl,hM'.below⟩
def ableV (t:Tk) (who:Int) (s:Sg):Bool:=if who<1∨mayS s=false then false else if t.ph=0 then true else if t.ph=1 then freeB s.l (fnv.shardV t.s s.C.sh) else if 2≤t.ph∧t.ph≤5 then (heldV s.l who).contains (fnv.shardV t.s s.C.sh) else false
theorem able (t:Tk) (y:Tn) (who:Int) (s:Sg) (x:Sn) (w:World) (hM:Most w) (hS:Sgs w x s) (hq:∀q∈x.S,q.n≤1000000) (hl1:s.l.length≤1000000):Calls Tryz.prog 102 (List.toArray [tkV t y,.int .i64 who,sgV s x]) w fun e w'=>e=.returned (.bool (ableV t who s))∧Below w.heap.size w w':=by
 have MY:=fun w hM hS=>may s x w hM hS hq
 have SH:=fun w=>shardOf t y s x w
 obtain ⟨⟨hl,hlr⟩,⟨hs,hsn,hsr,hsA⟩,hSm⟩:=hS
 have FR:=fun w hr=>free s.l x.la s.l.length x.lc w (fnv.shardV t.s s.C.sh) hl rfl hr
 have HD:=fun w hr=>held s.l x.la s.l.length x.lc w who hl rfl hr hl1
 have CN:=fun u cu w hu hr=>contains (heldV s.l who) u (heldV s.l who).length cu (fnv.shardV t.s s.C.sh) w hu rfl hr
 have hAV:ableV t who s=if who<1∨mayS s=false then false else if t.ph=0 then true else if t.ph=1 then freeB s.l (fnv.shardV t.s s.C.sh) else if 2≤t.ph∧t.ph≤5 then (heldV s.l who).contains (fnv.shardV t.s s.C.sh) else false:=rfl
 rw [hAV]
 clear hAV
 generalize mayS s=my at *
 generalize heldV s.l who=hd at *
 generalize freeB s.l (fnv.shardV t.s s.C.sh)=fr at *
 generalize fnv.shardV t.s s.C.sh=k at *
 refine calls_of_exec Sxt.env_ok.keeps.soon_ Tryz.func102 rfl [(7,(line [0,1,2,3,4,5,6],[])),(12,(line [0,1,2,4,5,3,6,7,8],[]))] (schedQ_ok _ _ (by kernel_rfl)) (sgF x s) (fun φ hφ g hg=>(List.mem_cons.1 hφ).elim (fun e=>by subst e;exact hlr g hg) (fun h=>Shs.facts ⟨hs,hsn,hsr,hsA⟩ φ h g hg)) ?_
 conv=>arg 5;whnf
 refine wp_g0 (fun h1=>?_) (fun h1=>?_)
 rotate_left
 ·rw [if_pos (.inl (of_decide_eq_true h1))]
  conv=>arg 5;whnf
  exact wp_back fun β ρ w' hM'=>⟨rfl,hM'.below⟩
 have h2:¬ who<1:=of_decide_eq_false h1
 conv=>arg 5;whnf
 refine meetc (f:=74) (v:=.bool my) rfl (by kernel_rfl) (fun β ρ w' hM'=>MY w' (hM.later hM'.below) ⟨⟨hl,hM'.at_ (.head _)⟩,⟨hs,hsn,hM'.at_ (.tail _ (.head _)),fun q hqm=>Mem.acs (hsA q hqm) hM' fun φ hφ=>(show φ∈sgF x s from .tail _ (.tail _ (List.mem_flatMap.2 ⟨q,hqm,hφ⟩)))⟩,hSm⟩) ?_
 cases my with
 | false=>
  rw [if_pos (.inr rfl)]
  conv=>arg 5;whnf
  exact wp_back fun β ρ w' hM'=>⟨rfl,hM'.below⟩
 | true=>
  rw [if_neg (fun h=>h.elim h2 (fun h=>by cases h))]
  conv=>arg 5;whnf
  refine wp_br (fun g0=>?_) (fun g0=>?_)
  ·have k0:t.ph=0:=by have:(t.ph==0)=true:=g0;simpa using this
   rw [if_pos k0]
   conv=>arg 5;whnf
   exact wp_back fun β ρ w' hM'=>⟨rfl,hM'.below⟩
  have k0:¬ t.ph=0:=by have:(t.ph==0)=false:=g0;simpa using this
  rw [if_neg k0]
  conv=>arg 5;whnf
  refine wp_br (fun g1=>?_) (fun g1=>?_)
  ·have k1:t.ph=1:=by have:(t.ph==1)=true:=g1;simpa using this
   rw [if_pos k1]
   conv=>arg 5;whnf
   refine meetc (f:=154) (v:=.int .i64 k) rfl (by kernel_rfl) (fun β ρ w' hM'=>SH w') ?_
   conv=>arg 5;whnf
   refine meetc (f:=76) (v:=.bool fr) rfl (by kernel_rfl) (fun β ρ w' hM'=>FR w' (hM'.at_ (.head _))) ?_
   conv=>arg 5;whnf
   exact wp_back fun β ρ w' hM'=>⟨rfl,hM'.below⟩
  have k1:¬ t.ph=1:=by have:(t.ph==1)=false:=g1;simpa using this
  rw [if_neg k1]
  conv=>arg 5;whnf
  refine wp_br (fun g2=>?_) (fun g2=>?_)
  ·have k2:t.ph=2:=by have:(t.ph==2)=true:=g2;simpa using this
   rw [if_pos (by omega)]
   conv=>arg 5;whnf
   refine meet1F (f:=79) (n:=hd.length) (v:=fun a1 c1=>.slice a1 hd.length c1) (xs:=ic hd) rfl (by kernel_rfl) (fun β ρ w' hM'=>HD w' (hM'.at_ (.head _))) (fun u c_u h_u f_u=>?_)
   conv=>arg 5;whnf
   refine meetc (f:=154) (v:=.int .i64 k) rfl (by kernel_rfl) (fun β ρ w' hM'=>SH w') ?_
   conv=>arg 5;whnf
   refine meetc (f:=78) (v:=.bool (hd.contains k)) rfl (by kernel_rfl) (fun β ρ w' hM'=>CN u c_u w' h_u (hM'.at_ (.head _))) ?_
   conv=>arg 5;whnf
   exact wp_back fun β ρ w' hM'=>⟨rfl,hM'.below⟩
  have k2:¬ t.ph=2:=by have:(t.ph==2)=false:=g2;simpa using this
  conv=>arg 5;whnf
  refine wp_br (fun g3=>?_) (fun g3=>?_)
  ·have k3:t.ph=3:=by have:(t.ph==3)=true:=g3;simpa using this
   rw [if_pos (by omega)]
   conv=>arg 5;whnf
   refine meet1F (f:=79) (n:=hd.length) (v:=fun a1 c1=>.slice a1 hd.length c1) (xs:=ic hd) rfl (by kernel_rfl) (fun β ρ w' hM'=>HD w' (hM'.at_ (.head _))) (fun u c_u h_u f_u=>?_)
   conv=>arg 5;whnf
   refine meetc (f:=154) (v:=.int .i64 k) rfl (by kernel_rfl) (fun β ρ w' hM'=>SH w') ?_
   conv=>arg 5;whnf
   refine meetc (f:=78) (v:=.bool (hd.contains k)) rfl (by kernel_rfl) (fun β ρ w' hM'=>CN u c_u w' h_u (hM'.at_ (.head _))) ?_
   conv=>arg 5;whnf
   exact wp_back fun β ρ w' hM'=>⟨rfl,hM'.below⟩
  have k3:¬ t.ph=3:=by have:(t.ph==3)=false:=g3;simpa using this
  conv=>arg 5;whnf
  refine wp_br (fun g4=>?_) (fun g4=>?_)
  ·have k4:t.ph=4:=by have:(t.ph==4)=true:=g4;simpa using this
   rw [if_pos (by omega)]
   conv=>arg 5;whnf
   refine meet1F (f:=79) (n:=hd.length) (v:=fun a1 c1=>.slice a1 hd.length c1) (xs:=ic hd) rfl (by kernel_rfl) (fun β ρ w' hM'=>HD w' (hM'.at_ (.head _))) (fun u c_u h_u f_u=>?_)
   conv=>arg 5;whnf
   refine meetc (f:=154) (v:=.int .i64 k) rfl (by kernel_rfl) (fun β ρ w' hM'=>SH w') ?_
   conv=>arg 5;whnf
   refine meetc (f:=78) (v:=.bool (hd.contains k)) rfl (by kernel_rfl) (fun β ρ w' hM'=>CN u c_u w' h_u (hM'.at_ (.head _))) ?_
   conv=>arg 5;whnf
   exact wp_back fun β ρ w' hM'=>⟨rfl,hM'.below⟩
  have k4:¬ t.ph=4:=by have:(t.ph==4)=false:=g4;simpa using this
  conv=>arg 5;whnf
  refine wp_br (fun g5=>?_) (fun g5=>?_)
  ·have k5:t.ph=5:=by have:(t.ph==5)=true:=g5;simpa using this
   rw [if_pos (by omega)]
   conv=>arg 5;whnf
   refine meet1F (f:=79) (n:=hd.length) (v:=fun a1 c1=>.slice a1 hd.length c1) (xs:=ic hd) rfl (by kernel_rfl) (fun β ρ w' hM'=>HD w' (hM'.at_ (.head _))) (fun u c_u h_u f_u=>?_)
   conv=>arg 5;whnf
   refine meetc (f:=154) (v:=.int .i64 k) rfl (by kernel_rfl) (fun β ρ w' hM'=>SH w') ?_
   conv=>arg 5;whnf
   refine meetc (f:=78) (v:=.bool (hd.contains k)) rfl (by kernel_rfl) (fun β ρ w' hM'=>CN u c_u w' h_u (hM'.at_ (.head _))) ?_
   conv=>arg 5;whnf
   exact wp_back fun β ρ w' hM'=>⟨rfl,hM'.below⟩
  have k5:¬ t.ph=5:=by have:(t.ph==5)=false:=g5;simpa using this
  rw [if_neg (by omega)]
  conv=>arg 5;whnf
  exact wp_back fun β ρ w' hM'=>⟨rfl,hM'.below⟩
end Go.Proofs.YtfhgkkcpkcjbmaaGreatDoor.task
namespace Go.Proofs.YtfhgkkcpkcjbmaaGreatDoor.task
open Go.RowKit Sx txn queue greedy shard pool Go.Proofs.YtfhgkkcpkcjbmaaGreatDoor.look lock
theorem take_len (l:List Int) (i x:Int):(takeV l i x).length=l.length:=by unfold takeV;cases takeE l i x==0 <;> simp [withV]
theorem give_len (l:List Int) (i x:Int):(giveV l i x).length=l.length:=by unfold giveV;cases giveE l i x==0 <;> simp [withV]
def Tn.ok (y:Tn) (t:Tk):Prop:=y.x.ok t.P∧Sl y.a t.r.l.length y.c
def Sgo (x:Sn) (s:Sg):Prop:=Sl x.la s.l.length x.lc∧Sl x.sa x.S.length x.sc∧(∀q∈x.S,Sl q.a q.n q.c∧q.n=q.L.length∧∀z∈q.L,z.fit)∧x.S.map shdP=s.S
theorem sgs_of {W:World} {G:Option Nat} {m:M} {β ρ} {w:World} {x:Sn} {s:Sg} (hM:Mem W G m β ρ w) (h:Sgo x s) (hm:∀φ∈sgF x s,φ∈m.facts):Sgs w x s:=
 ⟨⟨h.1,hM.at_ (hm _ (.head _))⟩,⟨h.2.1,rfl,hM.at_ (hm _ (.tail _ (.head _))),fun q hq=>acs_of hM (h.2.2.1 q hq).1 (h.2.2.1 q hq).2.1 (h.2.2.1 q hq).2.2 fun φ hφ=>hm _ (.tail _ (.tail _ (List.mem_flatMap.2 ⟨q,hq,hφ⟩)))⟩,h.2.2.2⟩
structure Sr where
 t:Tk
 s:Sg
 ev:List Ev
 p:Bool
structure Sa where
 y:Tn
 x:Sn
 ea:Option Addr
 ec:Nat
def Sa.ok (a:Sa) (r:Sr):Prop:=a.y.ok r.t∧Sgo a.x r.s∧Sl a.ea r.ev.length a.ec
def Sa.v (a:Sa) (r:Sr):Value:=.tuple #[tkV r.t a.y,sgV r.s a.x,.slice a.ea r.ev.length a.ec,.bool r.p]
def Sa.fs (a:Sa) (r:Sr):List Fact:=rowF (pt a.ea r.ev.length) (cellsE r.ev)::(a.y.fs r.t++sgF a.x r.s)
def StA (w w':World) (old:List Fact) (e:Ending) (r:Sr):Prop:=∃a:Sa,a.ok r∧Lay w w' old e (a.v r) (a.fs r)
section
variable {W : World} {G : Option Nat} {Q : Ending → World → Prop} {ds : List Deferred}
theorem meetSt {f:FuncId} {args:List Sx.T} {l:List Value} {m:M} {k:Value→List Fact→Tree} (r:Sr) (old:List Fact) (hold:∀ψ∈old,ψ∈m.facts) (hv:valsOf args=some l) (hc:callable Tryz.prog f=true)
  (hC:∀β ρ w,Mem W G m β ρ w→Calls Tryz.prog f (List.toArray l) w fun e w'=>StA w w' old e r)
  (h:∀a:Sa,a.ok r→(∀φ∈a.fs r,New W old φ)→(k (a.v r) (a.fs r)).wpD Tryz.prog W G Q ds):(Tree.call f args m k).wpD Tryz.prog W G Q ds:=
 meetLy (ι:=Sa) (ok:=fun a=>a.ok r) (v:=fun a=>a.v r) (fs:=fun a=>a.fs r) old hold hv hc hC h
end
theorem st_mk {W w':World} {m:M} {β ρ} {old:List Fact} {e:Ending} {r:Sr} (a:Sa) (ha:a.ok r) (he:e=.returned (a.v r)) (hM:Mem W none m β ρ w') (hm:∀φ∈a.fs r,∀g,φ.g=some g→φ∈m.facts∧New W old φ):StA W w' old e r:=
 ⟨a,ha,he,hM.below,fun φ hφ g hg=>⟨(hm φ hφ g hg).2 g hg,(hM.fact φ (hm φ hφ g hg).1 g hg).2⟩⟩
theorem new_old {W:World} {old:List Fact} {φ:Fact} (h:φ∈old):New W old φ:=fun g hg=>.inr ⟨φ,h,hg⟩
theorem take_ (t:Tk) (y:Tn) (who:Int) (s:Sg) (x:Sn) (w:World) (hy:y.ok t) (hyf:∀φ∈y.fs t,∀g,φ.g=some g→∃o,w.heap[g]?=some o∧φ.holds o) (hx:Sgo x s) (hxf:∀φ∈sgF x s,∀g,φ.g=some g→∃o,w.heap[g]?=some o∧φ.holds o) (hl1:s.l.length≤1000000) :
  Calls Tryz.prog 156 (List.toArray [tkV t y,.int .i64 who,sgV s x]) w fun e w'=>StA w w' (y.fs t++sgF x s) e ⟨{ t with ph:=2 },{ s with l:=takeV s.l (fnv.shardV t.s s.C.sh) who },[],false⟩:=by
 have SH:=fun w=>shardOf t y s x w
 have TK:=fun w hr=>lock.take s.l x.la s.l.length x.lc w (fnv.shardV t.s s.C.sh) who hx.1 rfl hr hl1
 have hlen:=take_len s.l (fnv.shardV t.s s.C.sh) who
 generalize fnv.shardV t.s s.C.sh=k at *
 generalize takeE s.l k who=er at *
 generalize takeV s.l k who=l2 at *
 refine calls_of_exec Sxt.env_ok.keeps.soon_ Tryz.func156 rfl [(1,(lineT [0,1,2,3,5,4,6,7,8,9,10] [11],[])),(3,(line [0,1,2,3,4,5],[2,3]))] (schedQ_ok _ _ (by kernel_rfl)) (y.fs t++sgF x s) (fun φ hφ g hg=>(List.mem_append.1 hφ).elim (fun h=>hyf φ h g hg) (fun h=>hxf φ h g hg)) ?_
 conv=>arg 5;whnf
 refine meetc (f:=154) (v:=.int .i64 k) rfl (by kernel_rfl) (fun β ρ w' hM'=>SH w') ?_
 conv=>arg 5;whnf
 refine meet1F (f:=122) (n:=s.l.length) (v:=fun a1 c1=>.tuple #[.slice a1 s.l.length c1,.int .i64 er]) (xs:=ic l2) rfl (by kernel_rfl) (fun β ρ w' hM'=>TK w' (hM'.at_ (show rowF (pt x.la s.l.length) (ic s.l)∈(y.fs t++sgF x s) from List.mem_append_right _ (.head _)))) (fun u c_u h_u f_u=>?_)
 have hR:(⟨{ t with ph:=2 },{ s with l:=l2 },[],false⟩:Sr)=⟨⟨t.O,2,t.s,t.P,t.r,t.pt⟩,⟨s.C,l2,s.t,s.m,s.S⟩,[],false⟩:=rfl
 have h_u:Sl u l2.length c_u:=by rw [hlen];exact h_u
 rw [← hlen] at f_u
 conv=>arg 5;whnf
 refine wp_back fun β ρ w' hM'=>st_mk (r:=⟨{ t with ph:=2 },{ s with l:=l2 },[],false⟩) ⟨y,⟨u,c_u,x.sa,x.sc,x.S⟩,none,0⟩ ⟨hy,⟨h_u,hx.2⟩,sl0⟩ (by unfold Sa.v sgV;rw [hlen];rfl) hM' fun φ hφ g hg=>?_
 rcases List.mem_cons.1 hφ with rfl | hφ
 ·cases hg
 ·rcases List.mem_append.1 hφ with h | h
  ·exact ⟨(show φ∈rowF (pt u s.l.length) (ic l2)::(y.fs t++sgF x s) from .tail _ (List.mem_append_left _ h)),new_old (List.mem_append_left _ h)⟩
  ·rcases List.mem_cons.1 h with rfl | h
   ·exact ⟨by rw [show ({ s with l:=l2 }:Sg).l.length=s.l.length from hlen];exact (show rowF (pt u s.l.length) (ic l2)∈rowF (pt u s.l.length) (ic l2)::(y.fs t++sgF x s) from .head _),fun g hg=>.inl (f_u g hg)⟩
   ·exact ⟨(show φ∈rowF (pt u s.l.length) (ic l2)::(y.fs t++sgF x s) from .tail _ (List.mem_append_right _ (.tail _ h))),new_old (List.mem_append_right _ (.tail _ h))⟩
theorem give_ (t:Tk) (y:Tn) (who:Int) (s:Sg) (x:Sn) (w:World) (hy:y.ok t) (hyf:∀φ∈y.fs t,∀g,φ.g=some g→∃o,w.heap[g]?=some o∧φ.holds o) (hx:Sgo x s) (hxf:∀φ∈sgF x s,∀g,φ.g=some g→∃o,w.heap[g]?=some o∧φ.holds o) (hl1:s.l.length≤1000000) :
  Calls Tryz.prog 160 (List.toArray [tkV t y,.int .i64 who,sgV s x]) w fun e w'=>StA w w' (y.fs t++sgF x s) e ⟨{ t with ph:=6 },{ s with l:=giveV s.l (fnv.shardV t.s s.C.sh) who },[],false⟩:=by
 have SH:=fun w=>shardOf t y s x w
 have TK:=fun w hr=>lock.give s.l x.la s.l.length x.lc w (fnv.shardV t.s s.C.sh) who hx.1 rfl hr hl1
 have hlen:=give_len s.l (fnv.shardV t.s s.C.sh) who
 generalize fnv.shardV t.s s.C.sh=k at *
 generalize giveE s.l k who=er at *
 generalize giveV s.l k who=l2 at *
 refine calls_of_exec Sxt.env_ok.keeps.soon_ Tryz.func160 rfl [(1,(lineT [0,1,2,3,5,4,6,7,8,9,10] [11],[])),(3,(line [0,1,2,3,4,5],[2,3]))] (schedQ_ok _ _ (by kernel_rfl)) (y.fs t++sgF x s) (fun φ hφ g hg=>(List.mem_append.1 hφ).elim (fun h=>hyf φ h g hg) (fun h=>hxf φ h g hg)) ?_
 conv=>arg 5;whnf
 refine meetc (f:=154) (v:=.int .i64 k) rfl (by kernel_rfl) (fun β ρ w' hM'=>SH w') ?_
 conv=>arg 5;whnf
 refine meet1F (f:=130) (n:=s.l.length) (v:=fun a1 c1=>.tuple #[.slice a1 s.l.length c1,.int .i64 er]) (xs:=ic l2) rfl (by kernel_rfl) (fun β ρ w' hM'=>TK w' (hM'.at_ (show rowF (pt x.la s.l.length) (ic s.l)∈(y.fs t++sgF x s) from List.mem_append_right _ (.head _)))) (fun u c_u h_u f_u=>?_)
 have hR:(⟨{ t with ph:=6 },{ s with l:=l2 },[],false⟩:Sr)=⟨⟨t.O,6,t.s,t.P,t.r,t.pt⟩,⟨s.C,l2,s.t,s.m,s.S⟩,[],false⟩:=rfl
 have h_u:Sl u l2.length c_u:=by rw [hlen];exact h_u
 rw [← hlen] at f_u
 conv=>arg 5;whnf
 refine wp_back fun β ρ w' hM'=>st_mk (r:=⟨{ t with ph:=6 },{ s with l:=l2 },[],false⟩) ⟨y,⟨u,c_u,x.sa,x.sc,x.S⟩,none,0⟩ ⟨hy,⟨h_u,hx.2⟩,sl0⟩ (by unfold Sa.v sgV;rw [hlen];rfl) hM' fun φ hφ g hg=>?_
 rcases List.mem_cons.1 hφ with rfl | hφ
 ·cases hg
 ·rcases List.mem_append.1 hφ with h | h
  ·exact ⟨(show φ∈rowF (pt u s.l.length) (ic l2)::(y.fs t++sgF x s) from .tail _ (List.mem_append_left _ h)),new_old (List.mem_append_left _ h)⟩
  ·rcases List.mem_cons.1 h with rfl | h
   ·exact ⟨by rw [show ({ s with l:=l2 }:Sg).l.length=s.l.length from hlen];exact (show rowF (pt u s.l.length) (ic l2)∈rowF (pt u s.l.length) (ic l2)::(y.fs t++sgF x s) from .head _),fun g hg=>.inl (f_u g hg)⟩
   ·exact ⟨(show φ∈rowF (pt u s.l.length) (ic l2)::(y.fs t++sgF x s) from .tail _ (List.mem_append_right _ (.tail _ h))),new_old (List.mem_append_right _ (.tail _ h))⟩
end Go.Proofs.YtfhgkkcpkcjbmaaGreatDoor.task
namespace Go.Proofs.YtfhgkkcpkcjbmaaGreatDoor.task
open Go.RowKit Sx txn queue greedy shard pool Go.Proofs.YtfhgkkcpkcjbmaaGreatDoor.look lock
def beginR (t:Tk) (s:Sg):Sr:=if (whoL t.O).2=true then ⟨{ t with s:=(whoL t.O).1,ph:=1 },s,[],false⟩ else ⟨{ t with r:=(lookL s.C.per s.C.bp (-1,0,[]) t.O).r,ph:=6 },s,[],true⟩
def adjustR (t:Tk) (s:Sg):Sr:=if pot.adjE s.t s.m t.P.dl=0 then ⟨{ t with r:=t.P.r,ph:=4 },{ s with t:=pot.adjT s.t s.m t.P.dl },t.P.ev,true⟩ else ⟨{ t with r:=fullL t.P,ph:=5 },s,[],true⟩
theorem begin_ (t:Tk) (y:Tn) (who:Int) (s:Sg) (x:Sn) (w:World) (hM:Most w) (hy:y.ok t) (hyf:∀φ∈y.fs t,∀g,φ.g=some g→∃o,w.heap[g]?=some o∧φ.holds o) (hx:Sgo x s) (hxf:∀φ∈sgF x s,∀g,φ.g=some g→∃o,w.heap[g]?=some o∧φ.holds o) (hO:t.O.d.size≤1000000) :
  Calls Tryz.prog 155 (List.toArray [tkV t y,.int .i64 who,sgV s x]) w fun e w'=>StA w w' (y.fs t++sgF x s) e (beginR t s):=by
 have WH:=fun w hM=>whose t.O w hM (by unfold maxLen;omega)
 have LO:=fun w hM=>look.look s.C (-1,0,[]) none 0 t.O w hM sl0 (fun g hg=>by cases hg) (Nat.zero_le _) (fun t ht=>by cases ht) hO
 have hR:beginR t s=if (whoL t.O).2=true then ⟨{ t with s:=(whoL t.O).1,ph:=1 },s,[],false⟩ else ⟨{ t with r:=(lookL s.C.per s.C.bp (-1,0,[]) t.O).r,ph:=6 },s,[],true⟩:=rfl
 rw [hR]
 clear hR
 generalize whoL t.O=q at *
 obtain ⟨q1,q2⟩:=q
 generalize lookL s.C.per s.C.bp (-1,0,[]) t.O=L at *
 refine calls_of_exec Sxt.env_ok.keeps.soon_ Tryz.func155 rfl [(4,(line [0,1,2,3,4,5],[2,3])),(7,(line [0,1,2,3,4,5],[2,3]))] (schedQ_ok _ _ (by kernel_rfl)) (y.fs t++sgF x s) (fun φ hφ g hg=>(List.mem_append.1 hφ).elim (fun h=>hyf φ h g hg) (fun h=>hxf φ h g hg)) ?_
 conv=>arg 5;whnf
 refine meetc (f:=199) (v:=.tuple #[.int .i64 q1,.bool q2]) rfl (by kernel_rfl) (fun β ρ w' hM'=>WH w' (hM.later hM'.below)) ?_
 cases q2 with
 | true=>
  rw [if_pos rfl]
  conv=>arg 5;whnf
  refine wp_back fun β ρ w' hM'=>st_mk (r:=⟨{ t with s:=q1,ph:=1 },s,[],false⟩) ⟨y,x,none,0⟩ ⟨hy,hx,sl0⟩ rfl hM' fun φ hφ g hg=>?_
  rcases List.mem_cons.1 hφ with rfl | hφ
  ·cases hg
  ·exact ⟨hφ,new_old hφ⟩
 | false=>
  rw [if_neg (by simp)]
  conv=>arg 5;whnf
  refine meetPl (f:=200) L [] (by simp) rfl (by kernel_rfl) (fun β ρ w' hM'=>LO w' (hM.later hM'.below)) (fun z hz hnew=>?_)
  conv=>arg 5;whnf
  refine wp_prim (resV L.r z.ta z.tc) (fun w=>by kernel_rfl) ?_
  conv=>arg 5;whnf
  refine wp_back fun β ρ w' hM'=>st_mk (r:=⟨{ t with r:=L.r,ph:=6 },s,[],true⟩) ⟨⟨y.x,z.ta,z.tc⟩,x,none,0⟩ ⟨⟨hy.1,hz.2.2⟩,hx,sl0⟩ rfl hM' fun φ hφ g hg=>?_
  rcases List.mem_cons.1 hφ with rfl | hφ
  ·cases hg
  ·rcases List.mem_append.1 hφ with h | h
   ·rcases List.mem_append.1 h with h | h
    ·exact ⟨(show φ∈z.fs L++(y.fs t++sgF x s) from List.mem_append_right _ (List.mem_append_left _ (List.mem_append_left _ h))),new_old (List.mem_append_left _ (List.mem_append_left _ h))⟩
    ·rw [List.mem_singleton] at h
     subst h
     exact ⟨(show rowF (pt z.ta L.r.l.length) (cellsL L.r.l)∈z.fs L++(y.fs t++sgF x s) from .tail _ (.tail _ (.head _))),fun g hg=>(hnew _ (.tail _ (.tail _ (.head _))) g hg).elim .inl (fun ⟨ψ,h1,_⟩=>by cases h1)⟩
   ·exact ⟨(show φ∈z.fs L++(y.fs t++sgF x s) from List.mem_append_right _ (List.mem_append_right _ h)),new_old (List.mem_append_right _ h)⟩
theorem adjust_ (t:Tk) (y:Tn) (who:Int) (s:Sg) (x:Sn) (w:World) (hy:y.ok t) (hyf:∀φ∈y.fs t,∀g,φ.g=some g→∃o,w.heap[g]?=some o∧φ.holds o) (hx:Sgo x s) (hxf:∀φ∈sgF x s,∀g,φ.g=some g→∃o,w.heap[g]?=some o∧φ.holds o) (hd:Fits t.P.dl) (hrl:t.P.r.l.length≤1000000) :
  Calls Tryz.prog 158 (List.toArray [tkV t y,.int .i64 who,sgV s x]) w fun e w'=>StA w w' (y.fs t++sgF x s) e (adjustR t s):=by
 have AD:=fun w=>pot.adjust s.t s.m t.P.dl w hd
 have FU:=fun w hr=>full t.P y.x w hy.1.2.2 hr hrl
 have hR:adjustR t s=if pot.adjE s.t s.m t.P.dl=0 then ⟨{ t with r:=t.P.r,ph:=4 },{ s with t:=pot.adjT s.t s.m t.P.dl },t.P.ev,true⟩ else ⟨{ t with r:=fullL t.P,ph:=5 },s,[],true⟩:=rfl
 rw [hR]
 clear hR
 generalize pot.adjE s.t s.m t.P.dl=er at *
 generalize pot.adjT s.t s.m t.P.dl=tk at *
 generalize hF:fullL t.P=F at *
 refine calls_of_exec Sxt.env_ok.keeps.soon_ Tryz.func158 rfl [(4,(line [0,1,2,3,4,5],[2,3])),(7,(line [0,1,2,3,4,5,6,7,8],[2,3]))] (schedQ_ok _ _ (by kernel_rfl)) (y.fs t++sgF x s) (fun φ hφ g hg=>(List.mem_append.1 hφ).elim (fun h=>hyf φ h g hg) (fun h=>hxf φ h g hg)) ?_
 conv=>arg 5;whnf
 refine meetc (f:=128) (v:=.tuple #[pot.two tk s.m,.int .i64 er]) rfl (by kernel_rfl) (fun β ρ w' hM'=>AD w') ?_
 conv=>arg 5;whnf
 refine wp_br (fun h1=>?_) (fun h1=>?_)
 ·have h2:¬ er=0:=by have:(!(er==0))=true:=h1;simpa using this
  rw [if_neg h2]
  conv=>arg 5;whnf
  refine meet1F (f:=201) (n:=F.l.length) (v:=fun a1 c1=>resV F a1 c1) (xs:=cellsL F.l) rfl (by kernel_rfl) (fun β ρ w' hM'=>FU w' (hM'.at_ (show rowF (pt y.x.ta t.P.r.l.length) (cellsL t.P.r.l)∈(y.fs t++sgF x s) from List.mem_append_left _ (List.mem_append_left _ (.tail _ (.tail _ (.head _))))))) (fun u c_u h_u f_u=>?_)
  conv=>arg 5;whnf
  refine wp_back fun β ρ w' hM'=>st_mk (r:=⟨{ t with r:=F,ph:=5 },s,[],true⟩) ⟨⟨y.x,u,c_u⟩,x,none,0⟩ ⟨⟨hy.1,h_u⟩,hx,sl0⟩ rfl hM' fun φ hφ g hg=>?_
  rcases List.mem_cons.1 hφ with rfl | hφ
  ·cases hg
  ·rcases List.mem_append.1 hφ with h | h
   ·rcases List.mem_append.1 h with h | h
    ·exact ⟨(show φ∈_::(y.fs t++sgF x s) from .tail _ (List.mem_append_left _ (List.mem_append_left _ h))),new_old (List.mem_append_left _ (List.mem_append_left _ h))⟩
    ·rw [List.mem_singleton] at h
     subst h
     exact ⟨.head _,fun g hg=>.inl (f_u g hg)⟩
   ·exact ⟨(show φ∈_::(y.fs t++sgF x s) from .tail _ (List.mem_append_right _ h)),new_old (List.mem_append_right _ h)⟩
 ·have h2:er=0:=by have:(!(er==0))=false:=h1;simpa using this
  rw [if_pos h2]
  conv=>arg 5;whnf
  refine wp_back fun β ρ w' hM'=>st_mk (r:=⟨{ t with r:=t.P.r,ph:=4 },{ s with t:=tk },t.P.ev,true⟩) ⟨⟨y.x,y.x.ta,y.x.tc⟩,x,y.x.ea,y.x.ec⟩ ⟨⟨hy.1,hy.1.2.2⟩,hx,hy.1.2.1⟩ rfl hM' fun φ hφ g hg=>?_
  have hin:φ∈(y.fs t++sgF x s):=by
   rcases List.mem_cons.1 hφ with rfl | hφ
   ·exact List.mem_append_left _ (List.mem_append_left _ (.tail _ (.head _)))
   ·rcases List.mem_append.1 hφ with h | h
    ·rcases List.mem_append.1 h with h | h
     ·exact List.mem_append_left _ (List.mem_append_left _ h)
     ·rw [List.mem_singleton] at h
      subst h
      exact List.mem_append_left _ (List.mem_append_left _ (.tail _ (.tail _ (.head _))))
    ·exact List.mem_append_right _ h
  exact ⟨hin,new_old hin⟩
end Go.Proofs.YtfhgkkcpkcjbmaaGreatDoor.task
namespace Go.Proofs.YtfhgkkcpkcjbmaaGreatDoor.task
open Go.RowKit Sx txn queue greedy shard pool Go.Proofs.YtfhgkkcpkcjbmaaGreatDoor.look lock
def seeR (t:Tk) (s:Sg) (Q:List PA):Sr:=if (lookL s.C.per s.C.bp (getP Q t.s) t.O).ch=true then ⟨{ t with P:=lookL s.C.per s.C.bp (getP Q t.s) t.O,ph:=3 },s,[],false⟩ else ⟨{ t with P:=lookL s.C.per s.C.bp (getP Q t.s) t.O,r:=(lookL s.C.per s.C.bp (getP Q t.s) t.O).r,ph:=5 },s,[],true⟩
theorem see_ (t:Tk) (y:Tn) (who:Int) (s:Sg) (x:Sn) (κ:Nat) (q:Shd) (w:World) (hM:Most w) (hy:y.ok t) (hyf:∀φ∈y.fs t,∀g,φ.g=some g→∃o,w.heap[g]?=some o∧φ.holds o) (hx:Sgo x s) (hxf:∀φ∈sgF x s,∀g,φ.g=some g→∃o,w.heap[g]?=some o∧φ.holds o) (hO:t.O.d.size≤1000000) (hκ:fnv.shardV t.s s.C.sh=κ) (hq:x.S[κ]?=some q) (hq1:q.n≤100000) :
  Calls Tryz.prog 157 (List.toArray [tkV t y,.int .i64 who,sgV s x]) w fun e w'=>StA w w' (y.fs t++sgF x s) e (seeR t s (q.L.map acP)):=by
 have SH:=fun w=>shardOf t y s x w
 rw [hκ] at SH
 have hqm:=List.mem_of_getElem? hq
 have hlt:κ<x.S.length:=(List.getElem?_eq_some_iff.1 hq).1
 have GT:=fun w hA=>shard.get q.v q.L q.a q.n q.c t.s w hA (by omega)
 obtain ⟨hp1,hp2⟩:=getP_fit (hx.2.2.1 q hqm).2.2 t.s
 have hR:seeR t s (q.L.map acP)=if (lookL s.C.per s.C.bp (getP (q.L.map acP) t.s) t.O).ch=true then ⟨{ t with P:=lookL s.C.per s.C.bp (getP (q.L.map acP) t.s) t.O,ph:=3 },s,[],false⟩ else ⟨{ t with P:=lookL s.C.per s.C.bp (getP (q.L.map acP) t.s) t.O,r:=(lookL s.C.per s.C.bp (getP (q.L.map acP) t.s) t.O).r,ph:=5 },s,[],true⟩:=rfl
 rw [hR]
 clear hR
 generalize getP (q.L.map acP) t.s=p at *
 have LO:=fun u cu w hM (hu:Sl u p.2.2.length cu) hr=>look.look s.C p u cu t.O w hM hu hr hp1 hp2 hO
 generalize lookL s.C.per s.C.bp p t.O=L at *
 refine calls_of_exec Sxt.env_ok.keeps.soon_ Tryz.func157 rfl [(1,(.one 0 (.one 1 (.one 2 (.one 3 (.one 7 (.one 8 (.fork 4 (.one 5 (.one 6 (.fork 9 (.one 10 (.one 11 (.done))) 10 (.one 9 (.one 11 (.done)))))) 10 (.one 4 (.one 5 (.one 6 (.one 9 (.one 11 (.done)))))))))))),[])),(5,(line [0,1,2,3,4,5],[2,3])),(7,(line [0,1,2,3,4,5],[2,3]))] (schedQ_ok _ _ (by kernel_rfl)) (y.fs t++sgF x s) (fun φ hφ g hg=>(List.mem_append.1 hφ).elim (fun h=>hyf φ h g hg) (fun h=>hxf φ h g hg)) ?_
 conv=>arg 5;whnf
 refine wp_both ?_ ?_
 all_goals
  conv=>arg 5;whnf
  refine meetc (f:=154) (v:=.int .i64 κ) rfl (by kernel_rfl) (fun β ρ w' hM'=>SH w') ?_
  conv=>arg 5;whnf
  refine wp_must ⟨by omega,by show (κ:Int)<(x.S.length:Int);omega,hx.2.1.some hlt⟩ ?_
  conv=>arg 5;whnf
  refine readG Sxt.env_ok (vs:=q.cs) (sz:=2) (k:=κ) rfl rfl (show rowF (pt x.sa x.S.length) (cellsS x.S)∈(y.fs t++sgF x s) from List.mem_append_right _ (.tail _ (.head _))) hlt (hx.2.1.some hlt) (cellsS_at hq) rfl ?_
  conv=>arg 5;whnf
  try refine wp_both ?_ ?_
  all_goals
   conv=>arg 5;whnf
   refine meet1F (f:=125) (n:=p.2.2.length) (v:=fun a1 c1=>acc p.1 p.2.1 a1 p.2.2.length c1) (xs:=cellsL p.2.2) rfl (by kernel_rfl) (fun β ρ w' hM'=>GT w' (acs_of hM' (hx.2.2.1 q hqm).1 (hx.2.2.1 q hqm).2.1 (hx.2.2.1 q hqm).2.2 fun φ hφ=>(show φ∈(y.fs t++sgF x s) from List.mem_append_right _ (.tail _ (.tail _ (List.mem_flatMap.2 ⟨q,hqm,hφ⟩)))))) (fun u c_u h_u f_u=>?_)
   conv=>arg 5;whnf
   refine meetPl (f:=200) L [] (by simp) rfl (by kernel_rfl) (fun β ρ w' hM'=>LO u c_u w' (hM.later hM'.below) h_u (hM'.at_ (.head _))) (fun z hz hnew=>?_)
   cases hch:L.ch with
   | true=>
    rw [if_pos rfl]
    conv=>arg 5;whnf
    refine wp_br (fun _=>?_) (fun h=>by rw [hch] at h;cases h)
    conv=>arg 5;whnf
    refine wp_back fun β ρ w' hM'=>st_mk (r:=⟨{ t with P:=L,ph:=3 },s,[],false⟩) ⟨⟨z,y.a,y.c⟩,x,none,0⟩ ⟨⟨hz,hy.2⟩,hx,sl0⟩ rfl hM' fun φ hφ g hg=>?_
    rcases List.mem_cons.1 hφ with rfl | hφ
    ·cases hg
    ·rcases List.mem_append.1 hφ with h | h
     ·rcases List.mem_append.1 h with h | h
      ·exact ⟨(show φ∈z.fs L++(rowF (pt u p.2.2.length) (cellsL p.2.2)::(y.fs t++sgF x s)) from List.mem_append_left _ h),(fun g hg=>(hnew _ h g hg).elim .inl (fun ⟨ψ,h1,_⟩=>by cases h1))⟩
      ·rw [List.mem_singleton] at h
       subst h
       exact ⟨(show rowF (pt y.a t.r.l.length) (cellsL t.r.l)∈z.fs L++(rowF (pt u p.2.2.length) (cellsL p.2.2)::(y.fs t++sgF x s)) from List.mem_append_right _ (.tail _ (List.mem_append_left _ (List.mem_append_right _ (.head _))))),new_old (List.mem_append_left _ (List.mem_append_right _ (.head _)))⟩
     ·exact ⟨(show φ∈z.fs L++(rowF (pt u p.2.2.length) (cellsL p.2.2)::(y.fs t++sgF x s)) from List.mem_append_right _ (.tail _ (List.mem_append_right _ h))),new_old (List.mem_append_right _ h)⟩
   | false=>
    rw [if_neg (by simp)]
    conv=>arg 5;whnf
    refine wp_br (fun h=>by rw [hch] at h;cases h) (fun _=>?_)
    conv=>arg 5;whnf
    refine wp_back fun β ρ w' hM'=>st_mk (r:=⟨{ t with P:=L,r:=L.r,ph:=5 },s,[],true⟩) ⟨⟨z,z.ta,z.tc⟩,x,none,0⟩ ⟨⟨hz,hz.2.2⟩,hx,sl0⟩ rfl hM' fun φ hφ g hg=>?_
    rcases List.mem_cons.1 hφ with rfl | hφ
    ·cases hg
    ·rcases List.mem_append.1 hφ with h | h
     ·rcases List.mem_append.1 h with h | h
      ·exact ⟨(show φ∈z.fs L++(rowF (pt u p.2.2.length) (cellsL p.2.2)::(y.fs t++sgF x s)) from List.mem_append_left _ h),(fun g hg=>(hnew _ h g hg).elim .inl (fun ⟨ψ,h1,_⟩=>by cases h1))⟩
      ·rw [List.mem_singleton] at h
       subst h
       exact ⟨(show rowF (pt z.ta L.r.l.length) (cellsL L.r.l)∈z.fs L++(rowF (pt u p.2.2.length) (cellsL p.2.2)::(y.fs t++sgF x s)) from .tail _ (.tail _ (.head _))),(fun g hg=>(hnew _ (.tail _ (.tail _ (.head _))) g hg).elim .inl (fun ⟨ψ,h1,_⟩=>by cases h1))⟩
     ·exact ⟨(show φ∈z.fs L++(rowF (pt u p.2.2.length) (cellsL p.2.2)::(y.fs t++sgF x s)) from List.mem_append_right _ (.tail _ (List.mem_append_right _ h))),new_old (List.mem_append_right _ h)⟩
end Go.Proofs.YtfhgkkcpkcjbmaaGreatDoor.task
namespace Go.Proofs.YtfhgkkcpkcjbmaaGreatDoor.task
open Go.RowKit Sx txn queue greedy shard pool Go.Proofs.YtfhgkkcpkcjbmaaGreatDoor.look lock
theorem cellsS_len (S:List Shd):(cellsS S).length=S.length*2:=by
 induction S with
 | nil=>rfl
 | cons x S ih=>unfold cellsS at *;rw [List.flatMap_cons,List.length_append,ih];simp [Shd.cs];omega
theorem cellsS_one (S:List Shd):∀u∈cellsS S,u.oneCell'=true:=by
 intro u hu
 obtain ⟨q,_,hq⟩:=List.mem_flatMap.1 hu
 simp only [Shd.cs,List.mem_cons,List.not_mem_nil,or_false] at hq
 rcases hq with rfl | rfl <;> rfl
theorem cellsS_app2 (A B:List Shd):cellsS (A++B)=cellsS A++cellsS B:=by simp [cellsS]
theorem spl_shd {S:List Shd} {k:Nat} (q:Shd) (h:k<S.length):spl (cellsS S) (k*2) q.cs=cellsS (S.set k q):=by
 rw [List.set_eq_take_append_cons_drop,if_pos h]
 have e:cellsS S=cellsS (S.take k)++cellsS (S.drop k):=by rw [← cellsS_app2,List.take_append_drop]
 have hl:(cellsS (S.take k)).length=k*2:=by rw [cellsS_len,List.length_take];omega
 have ed:S.drop k=S[k]::S.drop (k+1):=List.drop_eq_getElem_cons h
 unfold spl
 rw [e,ed]
 have h1:cellsS (S[k]::S.drop (k+1))=(S[k]).cs++cellsS (S.drop (k+1)):=rfl
 have h2:cellsS (S.take k++q::S.drop (k+1))=cellsS (S.take k)++(q.cs++cellsS (S.drop (k+1))):=by rw [cellsS_app2];rfl
 rw [h1,h2,List.take_left' hl]
 rw [show k*2+q.cs.length=(cellsS (S.take k)).length+2 by rw [hl];rfl,List.drop_append]
 rw [List.drop_of_length_le (by omega)]
 rw [show (cellsS (S.take k)).length+2 - (cellsS (S.take k)).length=2 by omega]
 rw [List.append_assoc]
 rfl
theorem cloneS (S:List Shd) (a:Option Addr) (n c:Nat) (w:World) (hs:Sl a n c) (hn:n=S.length) (hrow:At w (pt a n) (cellsS S)) (hl:S.length≤1000000) :
  Calls Tryz.prog 120 (List.toArray [.slice a n c]) w fun e w'=>∃v,e=.returned v∧Below w.heap.size w w'∧w'.ownsRow w.heap.size 125 2 v n (cellsS S):=by
 refine calls_of_row (Env.Ok.howD Sxt.env_ok [(120,.fresh 125 2)]) Tryz.func120 rfl [] (by kernel_rfl) (n:=2) rfl [.v (.slice a n c)] ⟨[],[],[rowF (pt a n) (cellsS S)]⟩ [] (mem_plain _ (at1 hrow)) (Rels.vals [.slice a n c]) ?_
 refine wp_prim (.bool a.isNone) (fun w=>by simp [eqGuard,Lib.run_eql_slice_nil w _ _ a n c 0 0 Tryz.underlying54]) ?_
 refine wp_br (fun h1=>?_) (fun h1=>?_)
 ·cases a with
  | some _=>cases h1
  | none=>
   have h0:=(hs.2.2 rfl).1
   exact wp_back fun β ρ w' hM'=>⟨_,rfl,hM'.below,by
    have hl0:S=[]:=List.eq_nil_of_length_eq_zero (by omega)
    subst hl0
    exact ⟨by simp [cellsS,h0],.inl ⟨rfl,h0⟩⟩⟩
 ·refine ⟨cellsS S,by rw [cellsS_len,hn],cellsS_one S,fun β ρ w' hM' ad had j u hu=>?_,?_⟩
  ·subst had
   have h1:=hM'.at_ List.mem_cons_self
   rw [pt_pos (k:=0) (by have:=(List.getElem?_eq_some_iff.1 hu).1;rw [cellsS_len] at this;omega)] at h1
   exact h1.cell hu
  ·refine wp_must ⟨by show 0+n≤maxLen;unfold maxLen;omega,by show (0+n)*32≤140737488355328;omega,fun ha=>hs.2.2 ha⟩ ?_
   refine wp_end (fun β ρ w' v hM' hv=>⟨v,rfl,hM'.below,?_⟩)
   have:=hM'.mine (i:=0) (r:=⟨125,2,0+n,[]++cellsS S⟩) rfl hv
   simpa using this
def applyR (t:Tk) (s:Sg) (κ:Nat) (Q:List PA) (v:Int):Sr:=⟨{ t with ph:=5 },{ s with S:=s.S.set κ (setP Q (t.P.s,t.P.b,t.P.l),nextV v) },[],false⟩
theorem apply_ (t:Tk) (y:Tn) (who:Int) (s:Sg) (x:Sn) (κ:Nat) (q:Shd) (w:World) (hM:Most w) (hy:y.ok t) (hyf:∀φ∈y.fs t,∀g,φ.g=some g→∃o,w.heap[g]?=some o∧φ.holds o) (hx:Sgo x s) (hxf:∀φ∈sgF x s,∀g,φ.g=some g→∃o,w.heap[g]?=some o∧φ.holds o) (hκ:fnv.shardV t.s s.C.sh=κ) (hq:x.S[κ]?=some q) (hq1:q.n≤100000) (hS1:x.S.length≤1000000) (hPl:t.P.l.length≤1000000) (hPd:∀z∈t.P.l,z.d.size≤maxLen) :
  Calls Tryz.prog 159 (List.toArray [tkV t y,.int .i64 who,sgV s x]) w fun e w'=>StA w w' (y.fs t++sgF x s) e (applyR t s κ (q.L.map acP) q.v):=by
 have SH:=fun w=>shardOf t y s x w
 rw [hκ] at SH
 have hqm:=List.mem_of_getElem? hq
 have hlt:κ<x.S.length:=(List.getElem?_eq_some_iff.1 hq).1
 have ST:=fun w hA hr=>shard.set q.v q.L q.a q.n q.c t.P.s t.P.b t.P.l y.x.a t.P.l.length y.x.c w hA hq1 hy.1.1 rfl hPl hPd hr
 refine calls_of_exec (Env.Ok.pre_ (Env.Ok.howD Sxt.env_ok.keeps.soon_ [(120,.fresh 125 2)]) [(5,[0])]) Tryz.func159 rfl [(3,(lineT [0,1,2,3,4,5,6,7,8,9,10,11,12] [13],[])),(5,(line [0,1,2,3,4,5],[2,3]))] (schedQ_ok _ _ (by kernel_rfl)) (y.fs t++sgF x s) (fun φ hφ g hg=>(List.mem_append.1 hφ).elim (fun h=>hyf φ h g hg) (fun h=>hxf φ h g hg)) ?_
 conv=>arg 5;whnf
 refine meetc (f:=154) (v:=.int .i64 κ) rfl (by kernel_rfl) (fun β ρ w' hM'=>SH w') ?_
 conv=>arg 5;whnf
 refine meetM x.S.length (cellsS x.S) rfl (by kernel_rfl) (fun β ρ w' hM'=>cloneS x.S x.sa x.S.length x.sc w' hx.2.1 rfl (hM'.at_ (show rowF (pt x.sa x.S.length) (cellsS x.S)∈(y.fs t++sgF x s) from List.mem_append_right _ (.tail _ (.head _)))) hS1) ?_
 conv=>arg 5;whnf
 refine wp_must ⟨by omega,by show (κ:Int)<(x.S.length:Int);omega⟩ ?_
 conv=>arg 5;whnf
 refine ⟨q.cs,rfl,fun j u hu=>cellsS_at hq j u hu,?_⟩
 conv=>arg 5;whnf
 refine meetSh (f:=129) (setP (q.L.map acP) (t.P.s,t.P.b,t.P.l)) (nextV q.v) rfl (by kernel_rfl) (fun β ρ w' hM'=>ST w' (acs_of hM' (hx.2.2.1 q hqm).1 (hx.2.2.1 q hqm).2.1 (hx.2.2.1 q hqm).2.2 fun φ hφ=>(show φ∈(y.fs t++sgF x s) from List.mem_append_right _ (.tail _ (.tail _ (List.mem_flatMap.2 ⟨q,hqm,hφ⟩))))) (hM'.at_ (show rowF (pt y.x.a t.P.l.length) (cellsL t.P.l)∈(y.fs t++sgF x s) from List.mem_append_left _ (List.mem_append_left _ (.head _))))) (fun Ls u c_u hLm hLf h_u hnew=>?_)
 conv=>arg 5;whnf
 refine wp_must ⟨by omega,by show (κ:Int)<(x.S.length:Int);omega⟩ ?_
 have es:spl (cellsS x.S) (κ*2) (⟨u,Ls.length,c_u,Ls,nextV q.v⟩:Shd).cs=cellsS (x.S.set κ ⟨u,Ls.length,c_u,Ls,nextV q.v⟩):=spl_shd _ hlt
 conv=>arg 5;whnf
 refine wp_must (by show κ*2+2≤(cellsS x.S).length;rw [cellsS_len];omega) ?_
 conv=>arg 5;whnf
 refine wp_share fun z c_z h_z f_z=>?_
 have hset:(x.S.set κ ⟨u,Ls.length,c_u,Ls,nextV q.v⟩).length=x.S.length:=List.length_set
 have hSn:∀r∈x.S.set κ ⟨u,Ls.length,c_u,Ls,nextV q.v⟩,r∈x.S∨r=⟨u,Ls.length,c_u,Ls,nextV q.v⟩:=fun r hr=>List.mem_or_eq_of_mem_set hr
 have hmap:(x.S.set κ ⟨u,Ls.length,c_u,Ls,nextV q.v⟩).map shdP=s.S.set κ (setP (q.L.map acP) (t.P.s,t.P.b,t.P.l),nextV q.v):=by
  rw [List.map_set,hx.2.2.2]
  show s.S.set κ (Ls.map acP,nextV q.v)=_
  rw [hLm]
 conv=>arg 5;whnf
 refine wp_back fun β ρ w' hM'=>st_mk (r:=applyR t s κ (q.L.map acP) q.v) ⟨y,⟨x.la,x.lc,z,c_z,x.S.set κ ⟨u,Ls.length,c_u,Ls,nextV q.v⟩⟩,none,0⟩ ⟨hy,⟨hx.1,by rw [hset];exact h_z,fun r hr=>(hSn r hr).elim (fun h=>hx.2.2.1 r h) (fun h=>by subst h;exact ⟨h_u,rfl,hLf⟩),hmap⟩,sl0⟩ (by unfold Sa.v sgV;rw [hset];rfl) hM' fun φ hφ g hg=>?_
 rcases List.mem_cons.1 hφ with rfl | hφ
 ·cases hg
 ·rcases List.mem_append.1 hφ with h | h
  ·exact ⟨(show φ∈_::(acsF u Ls.length Ls++(y.fs t++sgF x s)) from .tail _ (List.mem_append_right _ (List.mem_append_left _ h))),new_old (List.mem_append_left _ h)⟩
  ·rcases List.mem_cons.1 h with rfl | h
   ·exact ⟨(show _∈_::(acsF u Ls.length Ls++(y.fs t++sgF x s)) from .tail _ (List.mem_append_right _ (List.mem_append_right _ (.head _)))),new_old (List.mem_append_right _ (.head _))⟩
   ·rcases List.mem_cons.1 h with rfl | h
    ·have e:rowF (pt z (x.S.set κ ⟨u,Ls.length,c_u,Ls,nextV q.v⟩).length) (cellsS (x.S.set κ ⟨u,Ls.length,c_u,Ls,nextV q.v⟩))=rowF z (spl (cellsS x.S) (κ*2) (⟨u,Ls.length,c_u,Ls,nextV q.v⟩:Shd).cs):=by rw [hset,pt_pos hlt,es]
     refine ⟨by rw [show rowF _ _=_ from e];exact List.Mem.head _,fun g hg=>?_⟩
     rw [show (rowF _ _).g=(rowF z (spl (cellsS x.S) (κ*2) (⟨u,Ls.length,c_u,Ls,nextV q.v⟩:Shd).cs)).g from congrArg _ e] at hg
     cases z with
     | none=>cases hg
     | some ad=>
      obtain rfl:=Option.some.inj hg
      exact .inl ((f_z ad rfl).elim id (fun h=>by cases h))
    ·obtain ⟨r,hr,hφ⟩:=List.mem_flatMap.1 h
     rcases hSn r hr with hr | rfl
     ·exact ⟨(show φ∈_::(acsF u Ls.length Ls++(y.fs t++sgF x s)) from .tail _ (List.mem_append_right _ (List.mem_append_right _ (.tail _ (.tail _ (List.mem_flatMap.2 ⟨r,hr,hφ⟩)))))),new_old (List.mem_append_right _ (.tail _ (.tail _ (List.mem_flatMap.2 ⟨r,hr,hφ⟩))))⟩
     ·exact ⟨(show φ∈_::(acsF u Ls.length Ls++(y.fs t++sgF x s)) from .tail _ (List.mem_append_left _ hφ)),fun g hg=>.inl (hnew φ hφ g hg)⟩
end Go.Proofs.YtfhgkkcpkcjbmaaGreatDoor.task
namespace Go.Proofs.YtfhgkkcpkcjbmaaGreatDoor.task
open Go.RowKit Sx txn queue greedy shard pool Go.Proofs.YtfhgkkcpkcjbmaaGreatDoor.look lock
theorem cloneE (S:List Ev) (a:Option Addr) (n c:Nat) (w:World) (hs:Sl a n c) (hn:n=S.length) (hrow:At w (pt a n) (cellsE S)) (hl:S.length≤1000000) :
  Calls Tryz.prog 106 (List.toArray [.slice a n c]) w fun e w'=>∃v,e=.returned v∧Below w.heap.size w w'∧w'.ownsRow w.heap.size 122 8 v n (cellsE S):=by
 refine calls_of_row (Env.Ok.howD Sxt.env_ok [(106,.fresh 122 8)]) Tryz.func106 rfl [] (by kernel_rfl) (n:=2) rfl [.v (.slice a n c)] ⟨[],[],[rowF (pt a n) (cellsE S)]⟩ [] (mem_plain _ (at1 hrow)) (Rels.vals [.slice a n c]) ?_
 refine wp_prim (.bool a.isNone) (fun w=>by simp [eqGuard,Lib.run_eql_slice_nil w _ _ a n c 0 0 Tryz.underlying35]) ?_
 refine wp_br (fun h1=>?_) (fun h1=>?_)
 ·cases a with
  | some _=>cases h1
  | none=>
   have h0:=(hs.2.2 rfl).1
   exact wp_back fun β ρ w' hM'=>⟨_,rfl,hM'.below,by
    have hl0:S=[]:=List.eq_nil_of_length_eq_zero (by omega)
    subst hl0
    exact ⟨by simp [cellsE,h0],.inl ⟨rfl,h0⟩⟩⟩
 ·refine ⟨cellsE S,by rw [cellsE_length,hn],cellsE_one S,fun β ρ w' hM' ad had j u hu=>?_,?_⟩
  ·subst had
   have h1:=hM'.at_ List.mem_cons_self
   rw [pt_pos (k:=0) (by have:=(List.getElem?_eq_some_iff.1 hu).1;rw [cellsE_length] at this;omega)] at h1
   exact h1.cell hu
  ·refine wp_must ⟨by show 0+n≤maxLen;unfold maxLen;omega,by show (0+n)*72≤140737488355328;omega,fun ha=>hs.2.2 ha⟩ ?_
   refine wp_end (fun β ρ w' v hM' hv=>⟨v,rfl,hM'.below,?_⟩)
   have:=hM'.mine (i:=0) (r:=⟨122,8,0+n,[]++cellsE S⟩) rfl hv
   simpa using this
theorem pt_mem {W:World} {m:M} {β ρ} {w':World} {z:Option Addr} {xs:List Value} {old:List Fact} (n:Nat) (hM:Mem W none m β ρ w') (h:rowF z xs∈m.facts) (hf:Fresh W none z):∀g,(rowF (pt z n) xs).g=some g→(W.heap.size≤g∨∃ψ∈old,ψ.g=some g)∧∃o,w'.heap[g]?=some o∧(rowF (pt z n) xs).holds o:=by
 intro g hg
 unfold pt at *
 split at hg
 ·cases hg
 ·rename_i hn
  rw [if_neg hn]
  refine ⟨.inl ?_,(hM.fact _ h g hg).2⟩
  cases z with
  | none=>cases hg
  | some ad=>
   obtain rfl:=Option.some.inj hg
   exact (hf ad rfl).elim id (fun h=>by cases h)
theorem cloneT (S:List Tx) (a:Option Addr) (n c:Nat) (w:World) (hs:Sl a n c) (hn:n=S.length) (hrow:At w (pt a n) (cellsL S)) (hl:S.length≤1000000) :
  Calls Tryz.prog 118 (List.toArray [.slice a n c]) w fun e w'=>∃v,e=.returned v∧Below w.heap.size w w'∧w'.ownsRow w.heap.size 38 6 v n (cellsL S):=queue.clone S a n c w hs hn hrow hl
theorem copied (t:Tk) (y:Tn) (w:World) (hy:y.ok t) (hyf:∀φ∈y.fs t,∀g,φ.g=some g→∃o,w.heap[g]?=some o∧φ.holds o) (h1:t.P.l.length≤1000000) (h2:t.P.ev.length≤1000000) (h3:t.P.r.l.length≤1000000) (h4:t.r.l.length≤1000000) :
  Calls Tryz.prog 104 (List.toArray [tkV t y]) w fun e w'=>∃y':Tn,y'.ok t∧Lay w w' [] e (tkV t y') (y'.fs t):=by
 refine calls_of_exec (Env.Ok.howD Sxt.env_ok.keeps.soon_ [(106,.fresh 122 8),(118,.fresh 38 6)]) Tryz.func104 rfl [] (schedQ_ok _ _ (by kernel_rfl)) (y.fs t) hyf ?_
 conv=>arg 5;whnf
 refine meetM t.P.l.length (cellsL t.P.l) rfl (by kernel_rfl) (fun β ρ w' hM'=>cloneT t.P.l y.x.a t.P.l.length y.x.c w' hy.1.1 rfl (hM'.at_ (show rowF (pt y.x.a t.P.l.length) (cellsL t.P.l)∈y.fs t from (.head _))) h1) ?_
 conv=>arg 5;whnf
 refine meetM t.P.ev.length (cellsE t.P.ev) rfl (by kernel_rfl) (fun β ρ w' hM'=>cloneE t.P.ev y.x.ea t.P.ev.length y.x.ec w' hy.1.2.1 rfl (hM'.at_ (show rowF (pt y.x.ea t.P.ev.length) (cellsE t.P.ev)∈y.fs t from (.tail _ (.head _)))) h2) ?_
 conv=>arg 5;whnf
 refine meetM t.P.r.l.length (cellsL t.P.r.l) rfl (by kernel_rfl) (fun β ρ w' hM'=>cloneT t.P.r.l y.x.ta t.P.r.l.length y.x.tc w' hy.1.2.2 rfl (hM'.at_ (show rowF (pt y.x.ta t.P.r.l.length) (cellsL t.P.r.l)∈y.fs t from (.tail _ (.tail _ (.head _))))) h3) ?_
 conv=>arg 5;whnf
 refine meetM t.r.l.length (cellsL t.r.l) rfl (by kernel_rfl) (fun β ρ w' hM'=>cloneT t.r.l y.a t.r.l.length y.c w' hy.2 rfl (hM'.at_ (show rowF (pt y.a t.r.l.length) (cellsL t.r.l)∈y.fs t from (.tail _ (.tail _ (.tail _ (.head _)))))) h4) ?_
 conv=>arg 5;whnf
 refine wp_share fun z0 k0 s0 f0=>?_
 conv=>arg 5;whnf
 refine wp_share fun z1 k1 s1 f1=>?_
 conv=>arg 5;whnf
 refine wp_share fun z2 k2 s2 f2=>?_
 conv=>arg 5;whnf
 refine wp_share fun z3 k3 s3 f3=>?_
 conv=>arg 5;whnf
 refine wp_back fun β ρ w' hM'=>⟨⟨⟨z0,k0,z1,k1,z2,k2⟩,z3,k3⟩,⟨⟨s0,s1,s2⟩,s3⟩,rfl,hM'.below,fun φ hφ g hg=>?_⟩
 rcases List.mem_append.1 hφ with h | h
 ·rcases List.mem_cons.1 h with rfl | h
  ·exact pt_mem _ hM' (by repeat' first | exact List.Mem.head _ | apply List.Mem.tail) f0 g hg
  ·rcases List.mem_cons.1 h with rfl | h
   ·exact pt_mem _ hM' (by repeat' first | exact List.Mem.head _ | apply List.Mem.tail) f1 g hg
   ·rw [List.mem_singleton] at h
    subst h
    exact pt_mem _ hM' (by repeat' first | exact List.Mem.head _ | apply List.Mem.tail) f2 g hg
 ·rw [List.mem_singleton] at h
  subst h
  exact pt_mem _ hM' (by repeat' first | exact List.Mem.head _ | apply List.Mem.tail) f3 g hg
end Go.Proofs.YtfhgkkcpkcjbmaaGreatDoor.task
namespace Go.Proofs.YtfhgkkcpkcjbmaaGreatDoor.task
open Go.RowKit Sx txn queue greedy shard pool Go.Proofs.YtfhgkkcpkcjbmaaGreatDoor.look lock
theorem spl_shd2 (A B:List Shd) (y:Shd) (u:Option Addr) (cu:Nat) (L:List Ac):spl (cellsS (A++y::B)) (A.length*2) [.slice u y.n cu]=cellsS ((A++[⟨u,y.n,cu,L,y.v⟩])++B):=by
 unfold spl
 rw [cellsS_app2,cellsS_app2,cellsS_app2]
 have h1:cellsS (y::B)=y.cs++cellsS B:=rfl
 have h2:(cellsS A).length=A.length*2:=cellsS_len A
 rw [h1,List.take_left' h2,List.drop_append,h2]
 have e2:(cellsS A).drop (A.length*2+[Value.slice u y.n cu].length)=[]:=List.drop_of_length_le (by rw [h2];simp only [List.length_singleton];omega)
 rw [e2,show A.length*2+[Value.slice u y.n cu].length - A.length*2=1 by simp only [List.length_singleton];omega]
 simp [Shd.cs,cellsS]
def fsS (S:List Shd):List Fact:=S.flatMap fun q=>rowF q.a (cellsA q.L)::q.L.map acF
theorem newW {W:World} {u:Option Addr} {xs:List Value} (f:Fresh W none u):∀g,(rowF u xs).g=some g→W.heap.size≤g:=fun g hg=>by
 cases u with
 | none=>cases hg
 | some ad=>cases hg;exact (f ad rfl).resolve_right (by simp)
theorem fsS_app (A B:List Shd):fsS (A++B)=fsS A++fsS B:=by simp [fsS]
def shdFit (q:Shd):Prop:=Sl q.a q.n q.c∧q.n=q.L.length∧∀z∈q.L,z.fit
theorem copiedS (s:Sg) (x:Sn) (w:World) (hx:Sgo x s) (hxf:∀φ∈sgF x s,∀g,φ.g=some g→∃o,w.heap[g]?=some o∧φ.holds o) (hl1:s.l.length≤1000000) (hS1:x.S.length≤1000000) (hq1:∀q∈x.S,q.n≤1000000) :
  Calls Tryz.prog 105 (List.toArray [sgV s x]) w fun e w'=>∃x':Sn,Sgo x' s∧Lay w w' [] e (sgV s x') (sgF x' s):=by
 obtain ⟨hl,hs,hA,hSm⟩:=hx
 have hn63:=hs.le
 refine calls_of_exec (Env.Ok.howD Sxt.env_ok.keeps.soon_ [(119,.fresh 3 1),(120,.fresh 125 2),(121,.fresh 47 3)]) Tryz.func105 rfl [] (schedQ_ok _ _ (by kernel_rfl)) (sgF x s) hxf ?_
 conv=>arg 5;whnf
 refine meetM s.l.length (ic s.l) rfl (by kernel_rfl) (fun β ρ w' hM'=>lock.clone s.l x.la s.l.length x.lc w' hl rfl (hM'.at_ (.head _)) hl1) ?_
 conv=>arg 5;whnf
 refine meetM x.S.length (cellsS x.S) rfl (by kernel_rfl) (fun β ρ w' hM'=>cloneS x.S x.sa x.S.length x.sc w' hs rfl (hM'.at_ (.tail _ (.head _))) hS1) ?_
 conv=>arg 5;whnf
 refine loop_rule (Env.Ok.howD Sxt.env_ok.keeps.soon_ [(119,.fresh 3 1),(120,.fresh 125 2),(121,.fresh 47 3)]) [] (schedQ_ok _ _ (by kernel_rfl)) (fun i:Nat×List Shd=>i.1≤x.S.length∧i.2.length=i.1∧i.2.map shdP=(x.S.take i.1).map shdP∧(∀q∈i.2,shdFit q)∧(∀φ∈fsS i.2,∀g,φ.g=some g→w.heap.size≤g)) (fun i=>(⟨[some ([.v (.int .i64 s.C.sh),.v (.int .i64 s.C.so),.v (.int .i64 s.C.hd),.v (.int .i64 s.C.per),.v (.int .i64 s.C.bp),.v (.int .i64 s.C.fd),.v (.int .i64 s.C.wk),.v (.int .i64 s.C.rm),.r 0,.v (.int .i64 s.t),.v (.int .i64 s.m),.r 1],56),some ([.v (.int .i64 0),.v (.int .i64 0),.v (.int .i64 0),.v (.int .i64 0),.v (.int .i64 0),.v (.int .i64 0),.v (.int .i64 0),.v (.int .i64 0),.v (.slice none 0 0),.v (.int .i64 0),.v (.int .i64 0),.v (.slice none 0 0)],56)],[some ⟨3,1,s.l.length,ic s.l⟩,some ⟨125,2,x.S.length,cellsS (i.2++x.S.drop i.1)⟩],rowF (pt x.la s.l.length) (ic s.l)::(fsS i.2++sgF x s)⟩,[.any,.p 0 0,.p 1 0,.any,.any,.any,.any,.any,.any,.any,.any,.any,.any,.any,.any,.any,.v (.int .i64 x.S.length),.v (.int .i64 i.1),.any,.any,.any,.any,.any,.any,.any,.any,.any,.any,.any,.any,.any,.any,.any,.any,.any,.any,.any,.any,.any,.any,.any,.any,.any,.any,.any,.any,.any,.any,.any,.any,.any])) (fun i=>x.S.length - i.1) (0,[]) ⟨Nat.zero_le _,rfl,rfl,by simp,by simp [fsS]⟩ ⟨by repeat' first | exact trivial | refine ⟨.inl rfl,?_⟩ | refine ⟨.inr rfl,?_⟩,⟨by repeat' first | exact trivial | refine ⟨.inl rfl,?_⟩ | refine ⟨.inr rfl,?_⟩,by repeat' first | exact trivial | refine ⟨.inl rfl,?_⟩ | refine ⟨.inr rfl,?_⟩,fun φ h=>(List.mem_cons.1 h).elim (fun e=>by subst e;exact .head _) (fun h=>h)⟩,rfl⟩ ?_
 rintro ⟨k,Ss⟩ ⟨hk,hLk,hLm,hLf,hLn⟩
 have hk:k≤x.S.length:=hk
 have hLk:Ss.length=k:=hLk
 conv=>arg 5;whnf
 refine wp_br (fun h1=>?_) (fun h1=>?_)
 ·have hlt:k<x.S.length:=by have h3:=of_decide_eq_true (show decide ((k:Int)<(x.S.length:Int))=true from h1);omega
  obtain ⟨y,hy⟩:∃y,x.S[k]?=some y:=⟨_,List.getElem?_eq_getElem (by omega)⟩
  have hym:y∈x.S:=List.mem_of_getElem? hy
  obtain ⟨ys,yn,yf⟩:=hA y hym
  have hyn:=hq1 y hym
  have yle:=ys.le
  have hdr:x.S.drop k=y::x.S.drop (k+1):=by
   have hkl:k<x.S.length:=by omega
   rw [List.drop_eq_getElem_cons hkl,(List.getElem?_eq_some_iff.1 hy).2]
  rw [show (k,Ss).2=Ss from rfl,show (k,Ss).1=k from rfl,hdr]
  have hyy:(Ss++y::x.S.drop (k+1))[k]?=some y:=by rw [List.getElem?_append_right (by omega),hLk];simp
  have hyF:∀φ∈acsF y.a y.n y.L,φ∈sgF x s:=fun φ hφ=>.tail _ (.tail _ (List.mem_flatMap.2 ⟨y,hym,hφ⟩))
  conv=>arg 5;whnf
  refine wp_must ⟨by omega,by show (k:Int)<(x.S.length:Int);omega⟩ ?_
  conv=>arg 5;whnf
  refine ⟨[.slice y.a y.n y.c],rfl,fun j u hu=>(by cases j with | zero=>(simp at hu;subst hu;exact cellsS_at hyy 0 _ rfl) | succ j=>simp at hu),?_⟩
  conv=>arg 5;whnf
  refine meetM y.n (cellsA y.L) rfl (by kernel_rfl) (fun β ρ w' hM'=>cloneA y.L y.a y.n y.c w' ys yn (hM'.at_ (.tail _ (List.mem_append_right _ (hyF _ (.head _))))) (by omega)) ?_
  conv=>arg 5;whnf
  refine loop_rule (Env.Ok.howD Sxt.env_ok.keeps.soon_ [(119,.fresh 3 1),(120,.fresh 125 2),(121,.fresh 47 3)]) [] (schedQ_ok _ _ (by kernel_rfl)) (fun i:Nat×List Ac=>i.1≤y.n∧i.2.length=i.1∧i.2.map acP=(y.L.take i.1).map acP∧(∀x∈i.2,x.fit)∧(∀φ∈i.2.map acF,∀g,φ.g=some g→w.heap.size≤g)) (fun i=>(⟨[some ([.v (.int .i64 s.C.sh),.v (.int .i64 s.C.so),.v (.int .i64 s.C.hd),.v (.int .i64 s.C.per),.v (.int .i64 s.C.bp),.v (.int .i64 s.C.fd),.v (.int .i64 s.C.wk),.v (.int .i64 s.C.rm),.r 0,.v (.int .i64 s.t),.v (.int .i64 s.m),.r 1],56),some ([.v (.int .i64 0),.v (.int .i64 0),.v (.int .i64 0),.v (.int .i64 0),.v (.int .i64 0),.v (.int .i64 0),.v (.int .i64 0),.v (.int .i64 0),.v (.slice none 0 0),.v (.int .i64 0),.v (.int .i64 0),.v (.slice none 0 0)],56)],[some ⟨3,1,s.l.length,ic s.l⟩,some ⟨125,2,x.S.length,cellsS (Ss++y::x.S.drop (k+1))⟩,some ⟨47,3,y.n,cellsA (i.2++y.L.drop i.1)⟩],rowF (pt x.la s.l.length) (ic s.l)::(i.2.map acF++(fsS Ss++sgF x s))⟩,[.any,.p 0 0,.p 1 0,.v (.int .i64 k),.r 2,.any,.any,.any,.any,.any,.any,.any,.any,.any,.any,.any,.v (.int .i64 x.S.length),.v (.int .i64 k),.any,.any,.any,.any,.any,.any,.any,.any,.any,.any,.v (.int .i64 y.n),.v (.int .i64 i.1),.any,.any,.any,.any,.any,.any,.any,.any,.any,.any,.any,.any,.any,.any,.any,.any,.any,.any,.any,.any,.any])) (fun i=>y.n - i.1) (0,[]) ⟨Nat.zero_le _,rfl,rfl,by simp,by simp⟩ ⟨by repeat' first | exact trivial | refine ⟨.inl rfl,?_⟩ | refine ⟨.inr rfl,?_⟩,⟨by repeat' first | exact trivial | refine ⟨.inl rfl,?_⟩ | refine ⟨.inr rfl,?_⟩,by repeat' first | exact trivial | refine ⟨.inl rfl,?_⟩ | refine ⟨.inr rfl,?_⟩,fun _ h=>h⟩,rfl⟩ ?_
  rintro ⟨t,Ls⟩ ⟨ht,hMk,hMm,hMf,hMn⟩
  have ht:t≤y.n:=ht
  have hMk:Ls.length=t:=hMk
  conv=>arg 5;whnf
  refine wp_br (fun h2=>?_) (fun h2=>?_)
  ·have htl:t<y.n:=by have h3:=of_decide_eq_true (show decide ((t:Int)<(y.n:Int))=true from h2);omega
   obtain ⟨z,hz⟩:∃z,y.L[t]?=some z:=⟨_,List.getElem?_eq_getElem (by omega)⟩
   have hzm:z∈y.L:=List.mem_of_getElem? hz
   obtain ⟨zs,zn,zl,zd⟩:=yf z hzm
   have hdz:y.L.drop t=z::y.L.drop (t+1):=by
    have hkl:t<y.L.length:=by omega
    rw [List.drop_eq_getElem_cons hkl,(List.getElem?_eq_some_iff.1 hz).2]
   rw [show (t,Ls).2=Ls from rfl,show (t,Ls).1=t from rfl,hdz]
   have hzz:(Ls++z::y.L.drop (t+1))[t]?=some z:=by rw [List.getElem?_append_right (by omega),hMk];simp
   conv=>arg 5;whnf
   refine wp_must ⟨by omega,by show (t:Int)<(y.n:Int);omega⟩ ?_
   conv=>arg 5;whnf
   refine ⟨[.slice z.a z.n z.c],rfl,fun j u hu=>(by cases j with | zero=>(simp at hu;subst hu;exact cellsA_at hzz 2 _ rfl) | succ j=>simp at hu),?_⟩
   conv=>arg 5;whnf
   refine meetO (e:=38) (size:=6) z.n (cellsL z.l) rfl (by kernel_rfl) (fun β ρ w' hM'=>clone z.l z.a z.n z.c w' zs zn (hM'.at_ (.tail _ (List.mem_append_right _ (List.mem_append_right _ (hyF _ (.tail _ (List.mem_map.2 ⟨z,hzm,rfl⟩))))))) zl) (fun u c_u h_u f_u=>?_)
   conv=>arg 5;whnf
   refine wp_must ⟨by omega,by show (t:Int)<(y.n:Int);omega⟩ ?_
   have es:spl (cellsA (Ls++z::y.L.drop (t+1))) (t*3+2) [.slice u z.n c_u]=cellsA ((Ls++[⟨z.s,z.b,u,z.n,c_u,z.l⟩])++y.L.drop (t+1)):=by rw [← hMk];exact spl_acc Ls _ z u c_u
   conv=>arg 5;whnf
   refine wp_must (by show t*3+2+1≤(cellsA (Ls++z::y.L.drop (t+1))).length;rw [cellsA_length,List.length_append,List.length_cons,hMk];omega) ?_
   conv=>arg 5;whnf
   refine wp_must ⟨by show -9223372036854775808≤(t:Int)+1;omega,by show (t:Int)+1≤9223372036854775807;omega⟩ ?_
   have hf2:(⟨z.s,z.b,u,z.n,c_u,z.l⟩:Ac).fit:=⟨h_u,zn,zl,zd⟩
   conv=>arg 5;whnf
   refine wp_end ⟨(t+1,Ls++[⟨z.s,z.b,u,z.n,c_u,z.l⟩]),⟨htl,by rw [List.length_append,hMk];rfl,by rw [List.map_append,hMm,List.take_add_one,hz,List.map_append];rfl,fun x hx=>(List.mem_append.1 hx).elim (hMf x) (fun h=>by rw [List.mem_singleton] at h;subst h;exact hf2),fun φ hφ=>by
    rw [List.map_append] at hφ
    rcases List.mem_append.1 hφ with hφ | hφ
    ·exact hMn φ hφ
    ·simp only [List.map_cons,List.map_nil,List.mem_singleton] at hφ
     subst hφ
     intro g hg
     exact newO f_u g hg⟩,⟨by repeat' first | exact trivial | refine ⟨.inl rfl,?_⟩ | refine ⟨.inr rfl,?_⟩,⟨by repeat' first | exact trivial | refine ⟨.inl rfl,?_⟩ | refine ⟨.inr rfl,?_⟩,by simp only [];rw [← es];repeat' first | exact trivial | refine ⟨.inl rfl,?_⟩ | refine ⟨.inr rfl,?_⟩,fun φ hφ=>by
    rcases List.mem_cons.1 hφ with rfl | hφ
    ·exact .tail _ (.head _)
    rcases List.mem_append.1 hφ with hφ | hφ
    ·rw [List.map_append] at hφ
     rcases List.mem_append.1 hφ with hφ | hφ
     ·exact .tail _ (.tail _ (List.mem_append_left _ hφ))
     ·simp only [List.map_cons,List.map_nil,List.mem_singleton] at hφ
      subst hφ
      exact .head _
    ·exact .tail _ (.tail _ (List.mem_append_right _ hφ))⟩,rfl⟩,by show y.n - (t+1)<y.n - t;omega⟩
  ·have htn:t=y.n:=by have h3:=of_decide_eq_false (show decide ((t:Int)<(y.n:Int))=false from h2);omega
   have e:y.L.take t=y.L:=List.take_of_length_le (by omega)
   have e2:y.L.drop t=[]:=List.drop_of_length_le (by omega)
   rw [show (t,Ls).2=Ls from rfl,show (t,Ls).1=t from rfl,e2,List.append_nil]
   have hMm:Ls.map acP=y.L.map acP:=by rw [← e];exact hMm
   have hll:y.n=Ls.length:=by omega
   conv=>arg 5;whnf
   refine wp_must ⟨by omega,by show (k:Int)<(x.S.length:Int);omega⟩ ?_
   conv=>arg 5;whnf
   refine wp_share fun v c_v h_v f_v=>?_
   have es:spl (cellsS (Ss++y::x.S.drop (k+1))) (k*2) [.slice v y.n c_v]=cellsS ((Ss++[⟨v,y.n,c_v,Ls,y.v⟩])++x.S.drop (k+1)):=by rw [← hLk];exact spl_shd2 Ss _ y v c_v Ls
   conv=>arg 5;whnf
   refine wp_must (by show k*2+1≤(cellsS (Ss++y::x.S.drop (k+1))).length;rw [cellsS_len,List.length_append,List.length_cons,hLk];omega) ?_
   conv=>arg 5;whnf
   refine wp_must ⟨by show -9223372036854775808≤(k:Int)+1;omega,by show (k:Int)+1≤9223372036854775807;omega⟩ ?_
   conv=>arg 5;whnf
   refine wp_end ⟨(k+1,Ss++[⟨v,y.n,c_v,Ls,y.v⟩]),⟨hlt,by rw [List.length_append,hLk];rfl,by rw [List.map_append,hLm,List.take_add_one,hy,List.map_append];show _++[shdP ⟨v,y.n,c_v,Ls,y.v⟩]=_++[shdP y];unfold shdP;rw [hMm],fun r hr=>(List.mem_append.1 hr).elim (hLf r) (fun h=>by rw [List.mem_singleton] at h;subst h;exact ⟨h_v,hll,hMf⟩),fun φ hφ=>by
    rw [fsS_app] at hφ
    rcases List.mem_append.1 hφ with hφ | hφ
    ·exact hLn φ hφ
    ·unfold fsS at hφ
     rw [List.flatMap_cons,List.flatMap_nil,List.append_nil] at hφ
     rcases List.mem_cons.1 hφ with rfl | hφ
     ·intro g hg
      exact newW f_v g hg
     ·exact hMn φ hφ⟩,⟨by repeat' first | exact trivial | refine ⟨.inl rfl,?_⟩ | refine ⟨.inr rfl,?_⟩,⟨by repeat' first | exact trivial | refine ⟨.inl rfl,?_⟩ | refine ⟨.inr rfl,?_⟩,by simp only [];rw [← es];repeat' first | exact trivial | refine ⟨.inl rfl,?_⟩ | refine ⟨.inr rfl,?_⟩,fun φ hφ=>by
    rcases List.mem_cons.1 hφ with rfl | hφ
    ·exact .tail _ (.head _)
    rcases List.mem_append.1 hφ with hφ | hφ
    ·rw [fsS_app] at hφ
     rcases List.mem_append.1 hφ with hφ | hφ
     ·exact .tail _ (.tail _ (List.mem_append_right _ (List.mem_append_left _ hφ)))
     ·unfold fsS at hφ
      rw [List.flatMap_cons,List.flatMap_nil,List.append_nil] at hφ
      rcases List.mem_cons.1 hφ with rfl | hφ
      ·exact .head _
      ·exact .tail _ (.tail _ (List.mem_append_left _ hφ))
    ·exact .tail _ (.tail _ (List.mem_append_right _ (List.mem_append_right _ hφ)))⟩,rfl⟩,by show x.S.length - (k+1)<x.S.length - k;omega⟩
 ·have hkn:k=x.S.length:=by have h3:=of_decide_eq_false (show decide ((k:Int)<(x.S.length:Int))=false from h1);omega
  have e:x.S.take k=x.S:=List.take_of_length_le (by omega)
  have e2:x.S.drop k=[]:=List.drop_of_length_le (by omega)
  rw [show (k,Ss).2=Ss from rfl,show (k,Ss).1=k from rfl,e2,List.append_nil]
  have hLm:Ss.map shdP=x.S.map shdP:=by rw [← e];exact hLm
  have hll:x.S.length=Ss.length:=by omega
  conv=>arg 5;whnf
  refine wp_share fun z0 k0 s0 f0=>?_
  conv=>arg 5;whnf
  refine wp_share fun z1 k1 s1 f1=>?_
  conv=>arg 5;whnf
  rw [hll] at s1
  refine wp_back fun β ρ w' hM'=>⟨⟨z0,k0,z1,k1,Ss⟩,⟨s0,s1,hLf,hLm.trans hSm⟩,?_,hM'.below,fun φ hφ g hg=>?_⟩
  ·unfold sgV
   rw [← hll]
   rfl
  ·rcases List.mem_cons.1 hφ with rfl | hφ
   ·exact pt_mem _ hM' (by repeat' first | exact List.Mem.head _ | apply List.Mem.tail) f0 g hg
   ·rcases List.mem_cons.1 hφ with rfl | hφ
    ·exact pt_mem _ hM' (by repeat' first | exact List.Mem.head _ | apply List.Mem.tail) f1 g hg
    ·obtain ⟨r,hr,hφ⟩:=List.mem_flatMap.1 hφ
     have hin:∀ψ∈rowF r.a (cellsA r.L)::r.L.map acF,ψ∈fsS Ss:=fun ψ hψ=>List.mem_flatMap.2 ⟨r,hr,hψ⟩
     rcases List.mem_cons.1 hφ with rfl | hφ
     ·have hf:Fresh w none r.a:=fun ad had=>.inl (hLn _ (hin _ (.head _)) ad.block (by rw [had];rfl))
      exact pt_mem _ hM' (.tail _ (.tail _ (.tail _ (List.mem_append_left _ (hin _ (.head _)))))) hf g hg
     ·exact ⟨.inl (hLn _ (hin _ (.tail _ hφ)) g hg),(hM'.fact _ (.tail _ (.tail _ (.tail _ (List.mem_append_left _ (hin _ (.tail _ hφ)))))) g hg).2⟩
end Go.Proofs.YtfhgkkcpkcjbmaaGreatDoor.task
