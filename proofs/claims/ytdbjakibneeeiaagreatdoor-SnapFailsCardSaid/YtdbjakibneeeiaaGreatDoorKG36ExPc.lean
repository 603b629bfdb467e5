/- pot.Adjust, by contract, and as a leaf of Ex (complex numbers are not reckoned). -/
import Derived.Test.YtdbjakibneeeiaaGreatDoorKShAll
import Derived.Test.YtdbjakibneeeiaaGreatDoorKG26ExO
import Derived.Test.YtdbjakibneeeiaaGreatDoorKG25TkEnv
import Derived.Test.YtdbjakibneeeiaaGreatDoorKG30PotFlt
import Derived.Laws.FloatArith
import Derived.WalkLawsBesides
import Derived.Test.YtdbjakibneeeiaaGreatDoorKG24ExH
import Derived.Test.YtdbjakibneeeiaaGreatDoorKTxn
import Derived.Test.YtdbjakibneeeiaaGreatDoorKG5CodecRefNum
import Derived.Lib.SliceRun
import Derived.Test.YtdbjakibneeeiaaGreatDoorKGreedyAll
set_option linter.all false
set_option maxHeartbeats 4000000
set_option maxRecDepth 100000
noncomputable section
namespace Go.Proofs.YtdbjakibneeeiaaGreatDoor.Qx
open Go.RowKit Sx queue aL ax Qf
def O7 {x y:Bool} (h:x=y):Ending.returned (YO [.bool x])=.returned (.bool y):=by rw [h];rfl
def wV (t m:Int):Bool:=decide (1≤m∧m≤1000∧0≤t∧t≤m)
def Cn (t m:Int):wV t m=true↔1≤m∧m≤1000∧0≤t∧t≤m:=by simp [wV]
def Bw (t m d:Int):Int:=if wV t m=true∧-t≤d∧d≤m - t then t+d else t
def xg (t m d:Int):Int:=if ¬ (wV t m=true∧-t≤d) then 1 else if d≤m - t then 0 else 6
def two (a b:Int):Value:=.agg #[.int .i64 a,.int .i64 b]
def within (a b:Int) (w:World):Calls Tryz.prog 215 (List.toArray [.int .i64 a,.int .i64 b]) w fun e w'=>e=.returned (.bool (decide (0≤a∧a≤b)))∧Below w.heap.size w w':=by
 refine au D2.aq Tryz.func215 rfl [] (by kernel_rfl) [] (by simp) ?_
 repeat' (first
  | (refine BI (fun h=>?_) (fun h=>?_))
  | exact av fun β ρ w' hM=>⟨O7 (by rw [Bool.eq_iff_iff];simp at *;omega),hM.below⟩)
def add (a b c:Int) (w:World) (hc:0≤c) (hc':c≤1000):Calls Tryz.prog 187 (List.toArray [.int .i64 a,.int .i64 b,.int .i64 c]) w fun e w'=>e=.returned (.tuple #[.int .i64 (if 0≤a∧a≤c∧0≤b∧b≤c - a then a+b else 0),.bool (decide (0≤a∧a≤c∧0≤b∧b≤c - a))])∧Below w.heap.size w w':=by
 refine au D2.aq Tryz.func187 rfl [] (by kernel_rfl) [] (by simp) ?_
 refine iA rfl (by kernel_rfl) (fun β ρ w' hM=>within a c w') ?_
 refine Ck (fun h1=>?_) (fun h1=>?_)
 ·simp at h1
  refine ai (by omega) ?_
  refine iA rfl (by kernel_rfl) (fun β ρ w' hM=>within b (c - a) w') ?_
  refine bk (fun h2=>?_) (fun h2=>?_)
  ·simp at h2
   exact av fun β ρ w' hM=>⟨by rw [decide_eq_false (by omega),if_neg (by omega)];rfl,hM.below⟩
  ·simp at h2
   refine ai (by omega) ?_
   exact av fun β ρ w' hM=>⟨by rw [decide_eq_true (by omega),if_pos (by omega)];rfl,hM.below⟩
 ·simp at h1
  exact av fun β ρ w' hM=>⟨by rw [decide_eq_false (by omega),if_neg (by omega)];rfl,hM.below⟩
def may (t m:Int) (w:World):Calls Tryz.prog 110 (List.toArray [two t m]) w fun e w'=>e=.returned (.bool (wV t m))∧Below w.heap.size w w':=by
 refine au D2.aq Tryz.func110 rfl [] (by kernel_rfl) [] (by simp) ?_
 repeat' (first
  | (refine BI (fun h=>?_) (fun h=>?_))
  | exact av fun β ρ w' hM=>⟨O7 (by rw [Bool.eq_iff_iff];simp [wV] at *;omega),hM.below⟩)
def cx (a b:Nat):Value:=.complex .f64 (fw a) (fw b)
def parts (t m:Int) (w:World) (h:wV t m=true):Calls Tryz.prog 189 (List.toArray [two t m]) w fun e w'=>e=.returned (cx t.toNat (m - t).toNat)∧Below w.heap.size w w':=by
 rw [Cn] at h
 refine au D2.aq Tryz.func189 rfl [] (by kernel_rfl) [] (by simp) ?_
 refine b8 (.float .f64 (floatOfInt .f64 t)) (fun w=>by kernel_rfl) ?_
 refine ai (by omega) ?_
 refine b8 (.float .f64 (floatOfInt .f64 (m - t))) (fun w=>by kernel_rfl) ?_
 refine b8 (cx t.toNat (m - t).toNat) (fun w=>by rw [zI _ (by omega),zI _ (by omega)];rfl) ?_
 exact av fun β ρ w' hM=>⟨rfl,hM.below⟩
def back (n:Nat) (w:World) (h:n≤1000):(do pure (Next.value (← convert 237 3 (.float .f64 (fw n)))):Sem Next).run Tryz.prog w=.ok (.value (.int .i64 n)) w:=by
 have hu:(Tryz.prog.underlying 237).isSome=true:=by kernel_rfl
 exact Cy (run_convert_float_int (P:=Tryz.prog) w 237 3 .f64 .i64 (fw n) n hu Tryz.underlying3 (It n (by omega))) Next.value
def XI (a b:Nat) (w:World) (h:a+b≤1000):Calls Tryz.prog 188 (List.toArray [cx a b]) w fun e w'=>e=.returned (two a (a+b))∧Below w.heap.size w w':=by
 refine au D2.aq Tryz.func188 rfl [] (by kernel_rfl) [] (by simp) ?_
 refine b8 (.float .f64 (fw a)) (fun w=>by rfl) ?_
 refine b8 (.int .i64 a) (fun w=>back a w (by omega)) ?_
 refine b8 (.float .f64 (fw b)) (fun w=>by rfl) ?_
 refine b8 (.int .i64 b) (fun w=>back b w (by omega)) ?_
 refine ai (by omega) ?_
 exact av fun β ρ w' hM=>⟨rfl,hM.below⟩
def Kt (t m d:Int) (w:World) (hd:Fits d):Calls Tryz.prog 150 (List.toArray [two t m,.int .i64 d]) w fun e w'=>e=.returned (.tuple #[two (Bw t m d) m,.int .i64 (xg t m d)])∧Below w.heap.size w w':=by
 unfold Fits at hd
 have no:¬ (wV t m=true∧-t≤d)→Bw t m d=t∧xg t m d=1:=fun h=>⟨if_neg (fun h'=>h ⟨h'.1,h'.2.1⟩),if_pos h⟩
 refine au D2.aq Tryz.func150 rfl [] (by kernel_rfl) [] (by simp) ?_
 refine iA rfl (by kernel_rfl) (fun β ρ w' hM=>may t m w') ?_
 cases hm:wV t m with
 | false=>
  obtain ⟨e1,e2⟩:=no (by simp [hm])
  exact av fun β ρ w' hM=>⟨by rw [e1,e2];rfl,hM.below⟩
 | true=>
  have hm':=(Cn t m).1 hm
  refine ai (by omega) ?_
  refine bk (fun h=>?_) (fun h=>?_)
  ·obtain ⟨e1,e2⟩:=no (by simp at h;omega)
   exact av fun β ρ w' hM=>⟨by rw [e1,e2];rfl,hM.below⟩
  ·simp at h
   refine b8 (.int .i64 (max d 0)) (fun w=>by simp [Builtin.max_,Builtin.max2,Sem.run_bind];split <;> omega) ?_
   refine iA rfl (by kernel_rfl) (fun β ρ w' hM=>add t (max d 0) m w' (by omega) (by omega)) ?_
   refine bk (fun h2=>?_) (fun h2=>?_)
   ·simp at h2
    exact av fun β ρ w' hM=>⟨by
     rw [show Bw t m d=t from if_neg (by omega),show xg t m d=6 from by unfold xg;rw [if_neg (by simp [hm];omega),if_neg (by omega)]];rfl,hM.below⟩
   ·simp at h2
    refine iA rfl (by kernel_rfl) (fun β ρ w' hM=>parts t m w' hm) ?_
    refine b8 (.float .f64 (floatOfInt .f64 d)) (fun w=>by kernel_rfl) ?_
    refine b8 (.float .f64 (floatOfInt .f64 d)) (fun w=>by kernel_rfl) ?_
    refine b8 (.float .f64 (Op.negFloat .f64 (floatOfInt .f64 d))) (fun w=>by rfl) ?_
    refine b8 (.complex .f64 (floatOfInt .f64 d) (Op.negFloat .f64 (floatOfInt .f64 d))) (fun w=>by rfl) ?_
    refine b8 (cx (t+d).toNat (m - (t+d)).toNat) (fun w=>by
     have:=Kz t (m - t) d d (t+d).toNat (m - (t+d)).toNat (by omega) (by omega) (by omega) (by omega) (by omega) (by omega) (by omega) (by omega) Tryz.prog w 235
     exact Cy this Next.value) ?_
    refine iA rfl (by kernel_rfl) (fun β ρ w' hM=>XI (t+d).toNat (m - (t+d)).toNat w' (by omega)) ?_
    exact av fun β ρ w' hM=>⟨by
     rw [show Bw t m d=t+d from if_pos ⟨hm,by omega,by omega⟩,show xg t m d=0 from by unfold xg;rw [if_neg (by simp [hm];omega),if_pos (by omega)],
      show (((t+d).toNat:Nat):Int)=t+d from by omega,show t+d+(((m - (t+d)).toNat:Nat):Int)=m from by omega];rfl,hM.below⟩
def rL:bI:=⟨[.flat [.int,.int],.int],[.flat [.int,.int],.int],fun x=>gd (dx x.2.1) (some ((Bw x.1.1 x.1.2.1 x.2.1,x.1.2.1,()),xg x.1.1 x.1.2.1 x.2.1,()))⟩
def Ah {B:World→Prop}:rL.fG.Ok Tryz.prog B 150:=by
 intro O w x vs hw hp hl
 obtain ⟨⟨t,m,u⟩,d,u2⟩:=x
 obtain ⟨y,us,rfl,⟨cs,rfl,k⟩,y2,us2,rfl,h2,h3⟩:=hl
 have h2:y2=.int .i64 d:=h2
 have h3:us2=[]:=h3
 obtain ⟨v1,q1,rfl,k1,v2,q2,rfl,k2,k3⟩:=k
 have k1:v1=[.int .i64 t]:=k1
 have k2:v2=[.int .i64 m]:=k2
 have k3:q2=[]:=k3
 subst h2 h3 k1 k2 k3
 have hd:dx d=true:=by
  cases hi:dx d with
  | true=>rfl
  | false=>exact absurd hp (by simp [bI.fG,rL,gd,hi])
 refine (Kt t m d w (by unfold Fits;have:=kr.1 hd;omega)).mono ?_
 rintro e w' ⟨rfl,hb⟩
 refine ⟨[two (Bw t m d) m,.int .i64 (xg t m d)],rfl,hb,?_⟩
 show cn _ [.flat [.int,.int],.int] ((gd (dx d) (some (((Bw t m d,m,()),xg t m d,()):af [.flat [.int,.int],.int]))).getD _) _
 rw [hd]
 exact ⟨_,_,rfl,⟨_,rfl,[_],_,rfl,rfl,[_],_,rfl,rfl,rfl⟩,_,_,rfl,rfl,rfl⟩
end Go.Proofs.YtdbjakibneeeiaaGreatDoor.Qx
namespace Go.Proofs.YtdbjakibneeeiaaGreatDoor.Ex
open Go.RowKit Sx
abbrev z0:Sh:=(.flat [.int,.int,.int,.int,.int,.str])
abbrev z1:Sh:=(.flat [.int,.int,(.row z0)])
abbrev z2:Sh:=(.flat [.int,.int,.int,.int,.int,.int,.int,.int])
abbrev z3:Sh:=(.flat [.int,.int])
abbrev z4:Sh:=(.flat [(.row z1),.int])
abbrev z5:Sh:=(.flat [z2,(.row .int),z3,(.row z4)])
abbrev z6:Sh:=(.flat [.int,z0,(.row z0),.int])
abbrev z7:Sh:=(.flat [.int,.int,.int,.int,(.row .int),(.row z4),z6])
abbrev z8:Sh:=(.flat [.int,.int,.int,.int,.str])
abbrev z9:Sh:=(.flat [.int,z0,.int])
abbrev Cu:Sh:=(.flat [.bool,.int,z1,(.row z9),z6])
abbrev ji:Sh:=(.flat [z8,.int,.int,Cu,z6,.bool])
abbrev Vv:Sh:=(.flat [(.num 7),(.num 7),(.num 7),(.num 7),(.num 7),(.num 7)])
abbrev Ws:Sh:=(.flat [.bool,.int,z1,(.num 9),z6])
abbrev Xj:Sh:=(.flat [.int,.int,.int])
abbrev Xw:Sh:=(.flat [z2,z4,z8])
abbrev Xi:Sh:=(.flat [.int,.int,.int,.int,.int])
abbrev Q_3:Sh:=z2
abbrev Mn:Sh:=z5
abbrev Q_7:Sh:=z6
abbrev Mx:Sh:=z7
abbrev Q_4:Sh:=z8
abbrev Q_2:Sh:=z1
abbrev Q_5:Sh:=z4
abbrev Q_6:Sh:=Xw
abbrev Q_8:Sh:=z9
def sy:List (TypeId×Sh):=[(3,.int),(4,.bool),(5,(.num 0)),(9,.str),(22,(.row .int)),(23,(.row z4)),(24,.int),(26,z0),(27,(.row z0)),(29,z6),(31,z7),(32,z3),(34,z2),(36,z3),(38,z5),(42,(.row .int)),(43,z3),(44,(.row z4)),(46,z5),(48,z6),(50,z7),(69,(.row z1)),(71,(.row z9)),(75,z8),(80,Xj),(84,z4),(90,z1),(92,Cu),(94,ji),(112,z4),(123,Xw),(143,Vv),(149,z9),(154,(.row (.row z0))),(169,(.row (.num 0))),(205,Xi),(256,(.row (.row z1)))]
def EN:Sx.Env:={ gI.env with keep:=true,made:=true,how:=[(75,.fresh 149 8),(82,.fresh 3 1),(84,.fresh 26 6),(85,.fresh 3 1),(119,.fresh 112 2),(120,.fresh 90 3),(207,.fresh 26 6),(216,.fresh 90 3)] }
def O5:EN.Ok Tryz.prog:=⟨gI.aq.zero,gI.aq.agg1,gI.aq.aggN,gI.aq.off,gI.aq.row,gI.aq.str,gI.aq.strs,gI.aq.ints,gI.aq.size,gI.aq.mixed,gI.aq.row1,gI.aq.meth,gI.aq.arr⟩
def HP (X:List Value) (a:Option Addr) (n c:Nat) (w:World) (hs:Sl a n c) (hX:X.length=n*8) (ho:∀u∈X,u.oneCell'=true) (hrow:At w (pt a n) X) (hl:n≤1000000) :
  Calls Tryz.prog 75 (List.toArray [.slice a n c]) w fun e w'=>∃v,e=.returned v∧Below w.heap.size w w'∧w'.ownsRow w.heap.size 149 8 v n X:=by
 refine bH (Env.Ok.CG gI.aq [(75,.fresh 149 8)]) Tryz.func75 rfl [] (by kernel_rfl) (n:=2) rfl [.v (.slice a n c)] ⟨[],[],[ay (pt a n) X]⟩ [] (cv _ (ru hrow)) (ak.vals [.slice a n c]) ?_
 refine b8 (.bool a.isNone) (fun w=>by simp [eqGuard,Lib.run_eql_slice_nil w _ _ a n c 0 0 Tryz.underlying71]) ?_
 refine bk (fun h1=>?_) (fun h1=>?_)
 ·cases a with
  | some _=>cases h1
  | none=>
   have h0:=(hs.2.2 rfl).1
   exact av fun β ρ w' hM'=>⟨_,rfl,hM'.below,by
    have hl0:X=[]:=List.eq_nil_of_length_eq_zero (by omega)
    subst hl0
    exact ⟨by simp [h0],.inl ⟨rfl,h0⟩⟩⟩
 ·refine ⟨X,hX,ho,fun β ρ w' hM' ad had j u hu=>?_,?_⟩
  ·subst had
   have h1:=hM'.at_ List.mem_cons_self
   rw [dR (k:=0) (by have:=(List.getElem?_eq_some_iff.1 hu).1;rw [hX] at this;omega)] at h1
   exact h1.cell hu
  ·refine ai ⟨by show 0+n≤maxLen;unfold maxLen;omega,by show (0+n)*72≤140737488355328;omega,fun ha=>hs.2.2 ha⟩ ?_
   refine aO (fun β ρ w' v hM' hv=>⟨v,rfl,hM'.below,?_⟩)
   have:=hM'.mine (i:=0) (r:=⟨149,8,0+n,[]++X⟩) rfl hv
   simpa using this
def GZ (X:List Value) (a:Option Addr) (n c:Nat) (w:World) (hs:Sl a n c) (hX:X.length=n*1) (ho:∀u∈X,u.oneCell'=true) (hrow:At w (pt a n) X) (hl:n≤1000000) :
  Calls Tryz.prog 82 (List.toArray [.slice a n c]) w fun e w'=>∃v,e=.returned v∧Below w.heap.size w w'∧w'.ownsRow w.heap.size 3 1 v n X:=by
 refine bH (Env.Ok.CG gI.aq [(82,.fresh 3 1)]) Tryz.func82 rfl [] (by kernel_rfl) (n:=2) rfl [.v (.slice a n c)] ⟨[],[],[ay (pt a n) X]⟩ [] (cv _ (ru hrow)) (ak.vals [.slice a n c]) ?_
 refine b8 (.bool a.isNone) (fun w=>by simp [eqGuard,Lib.run_eql_slice_nil w _ _ a n c 0 0 Tryz.underlying22]) ?_
 refine bk (fun h1=>?_) (fun h1=>?_)
 ·cases a with
  | some _=>cases h1
  | none=>
   have h0:=(hs.2.2 rfl).1
   exact av fun β ρ w' hM'=>⟨_,rfl,hM'.below,by
    have hl0:X=[]:=List.eq_nil_of_length_eq_zero (by omega)
    subst hl0
    exact ⟨by simp [h0],.inl ⟨rfl,h0⟩⟩⟩
 ·refine ⟨X,hX,ho,fun β ρ w' hM' ad had j u hu=>?_,?_⟩
  ·subst had
   have h1:=hM'.at_ List.mem_cons_self
   rw [dR (k:=0) (by have:=(List.getElem?_eq_some_iff.1 hu).1;rw [hX] at this;omega)] at h1
   exact h1.cell hu
  ·refine ai ⟨by show 0+n≤maxLen;unfold maxLen;omega,by show (0+n)*8≤140737488355328;omega,fun ha=>hs.2.2 ha⟩ ?_
   refine aO (fun β ρ w' v hM' hv=>⟨v,rfl,hM'.below,?_⟩)
   have:=hM'.mine (i:=0) (r:=⟨3,1,0+n,[]++X⟩) rfl hv
   simpa using this
def HT (X:List Value) (a:Option Addr) (n c:Nat) (w:World) (hs:Sl a n c) (hX:X.length=n*6) (ho:∀u∈X,u.oneCell'=true) (hrow:At w (pt a n) X) (hl:n≤1000000) :
  Calls Tryz.prog 84 (List.toArray [.slice a n c]) w fun e w'=>∃v,e=.returned v∧Below w.heap.size w w'∧w'.ownsRow w.heap.size 26 6 v n X:=by
 refine bH (Env.Ok.CG gI.aq [(84,.fresh 26 6)]) Tryz.func84 rfl [] (by kernel_rfl) (n:=2) rfl [.v (.slice a n c)] ⟨[],[],[ay (pt a n) X]⟩ [] (cv _ (ru hrow)) (ak.vals [.slice a n c]) ?_
 refine b8 (.bool a.isNone) (fun w=>by simp [eqGuard,Lib.run_eql_slice_nil w _ _ a n c 0 0 Tryz.underlying27]) ?_
 refine bk (fun h1=>?_) (fun h1=>?_)
 ·cases a with
  | some _=>cases h1
  | none=>
   have h0:=(hs.2.2 rfl).1
   exact av fun β ρ w' hM'=>⟨_,rfl,hM'.below,by
    have hl0:X=[]:=List.eq_nil_of_length_eq_zero (by omega)
    subst hl0
    exact ⟨by simp [h0],.inl ⟨rfl,h0⟩⟩⟩
 ·refine ⟨X,hX,ho,fun β ρ w' hM' ad had j u hu=>?_,?_⟩
  ·subst had
   have h1:=hM'.at_ List.mem_cons_self
   rw [dR (k:=0) (by have:=(List.getElem?_eq_some_iff.1 hu).1;rw [hX] at this;omega)] at h1
   exact h1.cell hu
  ·refine ai ⟨by show 0+n≤maxLen;unfold maxLen;omega,by show (0+n)*56≤140737488355328;omega,fun ha=>hs.2.2 ha⟩ ?_
   refine aO (fun β ρ w' v hM' hv=>⟨v,rfl,hM'.below,?_⟩)
   have:=hM'.mine (i:=0) (r:=⟨26,6,0+n,[]++X⟩) rfl hv
   simpa using this
def Hu (X:List Value) (a:Option Addr) (n c:Nat) (w:World) (hs:Sl a n c) (hX:X.length=n*1) (ho:∀u∈X,u.oneCell'=true) (hrow:At w (pt a n) X) (hl:n≤1000000) :
  Calls Tryz.prog 85 (List.toArray [.slice a n c]) w fun e w'=>∃v,e=.returned v∧Below w.heap.size w w'∧w'.ownsRow w.heap.size 3 1 v n X:=by
 refine bH (Env.Ok.CG gI.aq [(85,.fresh 3 1)]) Tryz.func85 rfl [] (by kernel_rfl) (n:=2) rfl [.v (.slice a n c)] ⟨[],[],[ay (pt a n) X]⟩ [] (cv _ (ru hrow)) (ak.vals [.slice a n c]) ?_
 refine b8 (.bool a.isNone) (fun w=>by simp [eqGuard,Lib.run_eql_slice_nil w _ _ a n c 0 0 Tryz.underlying42]) ?_
 refine bk (fun h1=>?_) (fun h1=>?_)
 ·cases a with
  | some _=>cases h1
  | none=>
   have h0:=(hs.2.2 rfl).1
   exact av fun β ρ w' hM'=>⟨_,rfl,hM'.below,by
    have hl0:X=[]:=List.eq_nil_of_length_eq_zero (by omega)
    subst hl0
    exact ⟨by simp [h0],.inl ⟨rfl,h0⟩⟩⟩
 ·refine ⟨X,hX,ho,fun β ρ w' hM' ad had j u hu=>?_,?_⟩
  ·subst had
   have h1:=hM'.at_ List.mem_cons_self
   rw [dR (k:=0) (by have:=(List.getElem?_eq_some_iff.1 hu).1;rw [hX] at this;omega)] at h1
   exact h1.cell hu
  ·refine ai ⟨by show 0+n≤maxLen;unfold maxLen;omega,by show (0+n)*8≤140737488355328;omega,fun ha=>hs.2.2 ha⟩ ?_
   refine aO (fun β ρ w' v hM' hv=>⟨v,rfl,hM'.below,?_⟩)
   have:=hM'.mine (i:=0) (r:=⟨3,1,0+n,[]++X⟩) rfl hv
   simpa using this
def Fp (X:List Value) (a:Option Addr) (n c:Nat) (w:World) (hs:Sl a n c) (hX:X.length=n*2) (ho:∀u∈X,u.oneCell'=true) (hrow:At w (pt a n) X) (hl:n≤1000000) :
  Calls Tryz.prog 119 (List.toArray [.slice a n c]) w fun e w'=>∃v,e=.returned v∧Below w.heap.size w w'∧w'.ownsRow w.heap.size 112 2 v n X:=by
 refine bH (Env.Ok.CG gI.aq [(119,.fresh 112 2)]) Tryz.func119 rfl [] (by kernel_rfl) (n:=2) rfl [.v (.slice a n c)] ⟨[],[],[ay (pt a n) X]⟩ [] (cv _ (ru hrow)) (ak.vals [.slice a n c]) ?_
 refine b8 (.bool a.isNone) (fun w=>by simp [eqGuard,Lib.run_eql_slice_nil w _ _ a n c 0 0 Tryz.underlying44]) ?_
 refine bk (fun h1=>?_) (fun h1=>?_)
 ·cases a with
  | some _=>cases h1
  | none=>
   have h0:=(hs.2.2 rfl).1
   exact av fun β ρ w' hM'=>⟨_,rfl,hM'.below,by
    have hl0:X=[]:=List.eq_nil_of_length_eq_zero (by omega)
    subst hl0
    exact ⟨by simp [h0],.inl ⟨rfl,h0⟩⟩⟩
 ·refine ⟨X,hX,ho,fun β ρ w' hM' ad had j u hu=>?_,?_⟩
  ·subst had
   have h1:=hM'.at_ List.mem_cons_self
   rw [dR (k:=0) (by have:=(List.getElem?_eq_some_iff.1 hu).1;rw [hX] at this;omega)] at h1
   exact h1.cell hu
  ·refine ai ⟨by show 0+n≤maxLen;unfold maxLen;omega,by show (0+n)*32≤140737488355328;omega,fun ha=>hs.2.2 ha⟩ ?_
   refine aO (fun β ρ w' v hM' hv=>⟨v,rfl,hM'.below,?_⟩)
   have:=hM'.mine (i:=0) (r:=⟨112,2,0+n,[]++X⟩) rfl hv
   simpa using this
def Fa (X:List Value) (a:Option Addr) (n c:Nat) (w:World) (hs:Sl a n c) (hX:X.length=n*3) (ho:∀u∈X,u.oneCell'=true) (hrow:At w (pt a n) X) (hl:n≤1000000) :
  Calls Tryz.prog 120 (List.toArray [.slice a n c]) w fun e w'=>∃v,e=.returned v∧Below w.heap.size w w'∧w'.ownsRow w.heap.size 90 3 v n X:=by
 refine bH (Env.Ok.CG gI.aq [(120,.fresh 90 3)]) Tryz.func120 rfl [] (by kernel_rfl) (n:=2) rfl [.v (.slice a n c)] ⟨[],[],[ay (pt a n) X]⟩ [] (cv _ (ru hrow)) (ak.vals [.slice a n c]) ?_
 refine b8 (.bool a.isNone) (fun w=>by simp [eqGuard,Lib.run_eql_slice_nil w _ _ a n c 0 0 Tryz.underlying69]) ?_
 refine bk (fun h1=>?_) (fun h1=>?_)
 ·cases a with
  | some _=>cases h1
  | none=>
   have h0:=(hs.2.2 rfl).1
   exact av fun β ρ w' hM'=>⟨_,rfl,hM'.below,by
    have hl0:X=[]:=List.eq_nil_of_length_eq_zero (by omega)
    subst hl0
    exact ⟨by simp [h0],.inl ⟨rfl,h0⟩⟩⟩
 ·refine ⟨X,hX,ho,fun β ρ w' hM' ad had j u hu=>?_,?_⟩
  ·subst had
   have h1:=hM'.at_ List.mem_cons_self
   rw [dR (k:=0) (by have:=(List.getElem?_eq_some_iff.1 hu).1;rw [hX] at this;omega)] at h1
   exact h1.cell hu
  ·refine ai ⟨by show 0+n≤maxLen;unfold maxLen;omega,by show (0+n)*40≤140737488355328;omega,fun ha=>hs.2.2 ha⟩ ?_
   refine aO (fun β ρ w' v hM' hv=>⟨v,rfl,hM'.below,?_⟩)
   have:=hM'.mine (i:=0) (r:=⟨90,3,0+n,[]++X⟩) rfl hv
   simpa using this
def Hp (k:Nat) (w:World) (hk:k≤1000000) :
  Calls Tryz.prog 207 #[.slice none 0 0,.int .i64 k] w fun e w'=>∃v,e=.returned v∧Below w.heap.size w w'∧w'.ownsRow w.heap.size 26 6 v 0 []:=by
 refine bH gI.aq Tryz.func207 rfl [] (by kernel_rfl) (n:=4) rfl [.v (.slice none 0 0),.v (.int .i64 k)] ⟨[],[],[]⟩ [] (cv _ (by simp)) (ak.vals [.slice none 0 0,.int .i64 k]) ?_
 refine ai ⟨by omega,by omega⟩ ?_
 refine ai ⟨by omega,by omega⟩ ?_
 refine bk (fun h2=>?_) (fun h2=>?_)
 ·refine b8 (.slice none 0 0) (fun w=>by simp [Instr.sliceAt,Instr.slice,run_underlying Tryz.underlying27,Sem.run_bind,go_sem]) ?_
  have h2:(0:Int)<(k:Int) - (0 - 0):=by simpa using h2
  refine ai ⟨h2,by omega,by omega⟩ ?_
  intro xs hx
  refine ai ⟨by omega,by omega⟩ ?_
  refine aO (fun β ρ w' v hM' hv=>⟨v,rfl,hM'.below,?_⟩)
  have:=hM'.mine (i:=0) (r:=⟨26,6,0,xs.take 0⟩) rfl hv
  simpa using this
 ·exact av fun β ρ w' hM'=>⟨_,rfl,hM'.below,rfl,.inl ⟨rfl,rfl⟩⟩
def Ie (k:Nat) (w:World) (hk:k≤1000000) :
  Calls Tryz.prog 216 #[.slice none 0 0,.int .i64 k] w fun e w'=>∃v,e=.returned v∧Below w.heap.size w w'∧w'.ownsRow w.heap.size 90 3 v 0 []:=by
 refine bH gI.aq Tryz.func216 rfl [] (by kernel_rfl) (n:=4) rfl [.v (.slice none 0 0),.v (.int .i64 k)] ⟨[],[],[]⟩ [] (cv _ (by simp)) (ak.vals [.slice none 0 0,.int .i64 k]) ?_
 refine ai ⟨by omega,by omega⟩ ?_
 refine ai ⟨by omega,by omega⟩ ?_
 refine bk (fun h2=>?_) (fun h2=>?_)
 ·refine b8 (.slice none 0 0) (fun w=>by simp [Instr.sliceAt,Instr.slice,run_underlying Tryz.underlying69,Sem.run_bind,go_sem]) ?_
  have h2:(0:Int)<(k:Int) - (0 - 0):=by simpa using h2
  refine ai ⟨h2,by omega,by omega⟩ ?_
  intro xs hx
  refine ai ⟨by omega,by omega⟩ ?_
  refine aO (fun β ρ w' v hM' hv=>⟨v,rfl,hM'.below,?_⟩)
  have:=hM'.mine (i:=0) (r:=⟨90,3,0,xs.take 0⟩) rfl hv
  simpa using this
 ·exact av fun β ρ w' hM'=>⟨_,rfl,hM'.below,rfl,.inl ⟨rfl,rfl⟩⟩
def hB:∀w w',txn.bA w→Below w.heap.size w w'→txn.bA w':=fun w w' h k=>h.later k
abbrev bB (t:EE):Prop:=t.gM.nq gI.env Tryz.prog txn.bA EN
abbrev xf (t:EE) (H:FH) (f:FuncId) {ps rs:List Sh} (x:af ps):Option (af rs):=Tr Tryz.prog EN t H f ps rs x
def bR {t:EE} {f:FuncId} {ps rs:List Sh} {F:af ps→Option (af rs)} (h:bB t) (H:FH) (k:KL Tryz.prog H f=true) (e:∀x,F x=Tr Tryz.prog EN t H f ps rs x):bB (t.ad f ⟨ps,rs,F⟩):=EE.xT h rfl hB k (H:=H) (congrArg (bI.mk _ _) (funext e))
def fr:List (FuncId×Gz):=[(75,l7 z9 149 8),(82,l7 .int 3 1),(84,l7 z0 26 6),(85,l7 .int 3 1),(119,l7 z4 112 2),(120,l7 z1 90 3),(207,BQ z0 26 6),(216,BQ z1 90 3)]
def t0:EE:=⟨sy,[],fr,[]⟩
def Ov:t0.gM.nq gI.env Tryz.prog txn.bA EN:=EE.HA (E:=gI.env) (sy:=sy) (fr:=fr) (idc:=[]) O5 rfl rfl rfl rfl (by kernel_rfl) (fun f S h=>by
 simp only [fr,List.mem_cons,Prod.mk.injEq,List.not_mem_nil,or_false] at h
 rcases h with ⟨rfl,rfl⟩ | ⟨rfl,rfl⟩ | ⟨rfl,rfl⟩ | ⟨rfl,rfl⟩ | ⟨rfl,rfl⟩ | ⟨rfl,rfl⟩ | ⟨rfl,rfl⟩ | ⟨rfl,rfl⟩
 ·exact ⟨by kernel_rfl,gS rfl HP⟩
 ·exact ⟨by kernel_rfl,gS rfl GZ⟩
 ·exact ⟨by kernel_rfl,gS rfl HT⟩
 ·exact ⟨by kernel_rfl,gS rfl Hu⟩
 ·exact ⟨by kernel_rfl,gS rfl Fp⟩
 ·exact ⟨by kernel_rfl,gS rfl Fa⟩
 ·exact ⟨by kernel_rfl,YX Hp⟩
 ·exact ⟨by kernel_rfl,YX Ie⟩
) (fun a b u h=>by cases h) (fun f S h=>cB h)
@[irreducible] def PF (x:af [.int]):Option (af [.str]):=(⟨[.int],[.str],fun x=>((fun n:Int=>bif decide (n<9223372036854775808) then some (⟨(cE.oK n).toArray⟩:ByteArray) else none) x.1).map fun z=>(z,())⟩:bI).F x
def s_1:bI:=⟨[.int],[.str],PF⟩
def WB:s_1=(⟨[.int],[.str],fun x=>((fun n:Int=>bif decide (n<9223372036854775808) then some (⟨(cE.oK n).toArray⟩:ByteArray) else none) x.1).map fun z=>(z,())⟩:bI):=congrArg (bI.mk _ _) (funext fun x=>by unfold PF;rfl)
def NF:EE:=t0.ad 69 s_1
def U5:bB NF:=EE.cP Ov (by kernel_rfl) (S:=s_1) (by rw [WB];exact Ic (F:=fun n:Int=>bif decide (n<9223372036854775808) then some (⟨(cE.oK n).toArray⟩:ByteArray) else none) (fun s w z h=>by
 cases hd:decide (s<9223372036854775808) with
 | false=>simp only [hd,cond_false] at h;cases h
 | true=>simp only [hd,cond_true,Option.some.injEq] at h;subst h;exact cE.A0 s w (of_decide_eq_true hd)))
@[irreducible] def NP (x:af [.str]):Option (af [.str]):=(⟨[.str],[.str],fun x=>((fun s:ByteArray=>bif decide (s.size≤maxLen) then some (⟨(cE.xZ s.data.toList).toArray⟩:ByteArray) else none) x.1).map fun z=>(z,())⟩:bI).F x
def s_2:bI:=⟨[.str],[.str],NP⟩
def Yr:s_2=(⟨[.str],[.str],fun x=>((fun s:ByteArray=>bif decide (s.size≤maxLen) then some (⟨(cE.xZ s.data.toList).toArray⟩:ByteArray) else none) x.1).map fun z=>(z,())⟩:bI):=congrArg (bI.mk _ _) (funext fun x=>by unfold NP;rfl)
def OE:EE:=NF.ad 70 s_2
def UE:bB OE:=EE.cP U5 (by kernel_rfl) (S:=s_2) (by rw [Yr];exact He (F:=fun s:ByteArray=>bif decide (s.size≤maxLen) then some (⟨(cE.xZ s.data.toList).toArray⟩:ByteArray) else none) (fun s w z h=>by
 cases hd:decide (s.size≤maxLen) with
 | false=>simp only [hd,cond_false] at h;cases h
 | true=>simp only [hd,cond_true,Option.some.injEq] at h;subst h;exact cE.Be s w (of_decide_eq_true hd)))
@[irreducible] def MC (x:af [.int,.int]):Option (af [.int]):=(⟨[.int,.int],[.int],fun x=>some (mL.fE x.1 x.2.1,())⟩:bI).F x
def Uz:bI:=⟨[.int,.int],[.int],MC⟩
def WI:Uz=(⟨[.int,.int],[.int],fun x=>some (mL.fE x.1 x.2.1,())⟩:bI):=congrArg (bI.mk _ _) (funext fun x=>by unfold MC;rfl)
def Pw:EE:=OE.ad 97 Uz
def QU:bB Pw:=EE.cP UE (by kernel_rfl) (S:=Uz) (by rw [WI];exact BG (fun s n w=>mL.Ap s n w))
@[irreducible] def Jn (x:af [.int,.int]):Option (af [.int]):=(⟨[.int,.int],[.int],fun x=>some (mL.fE x.1 x.2.1,())⟩:bI).F x
def SK:bI:=⟨[.int,.int],[.int],Jn⟩
def XJ:SK=(⟨[.int,.int],[.int],fun x=>some (mL.fE x.1 x.2.1,())⟩:bI):=congrArg (bI.mk _ _) (funext fun x=>by unfold Jn;rfl)
def OP:EE:=Pw.ad 132 SK
def TC:bB OP:=EE.cP QU (by kernel_rfl) (S:=SK) (by rw [XJ];exact BG (fun s n w=>mL.CH s n w))
@[irreducible] def PW (x:af [.str]):Option (af [z0,.bool]):=(queue.Hy:bI).F x
def R5:bI:=⟨[.str],[z0,.bool],PW⟩
def Yn:R5=(queue.Hy:bI):=congrArg (bI.mk _ _) (funext fun x=>by unfold PW;rfl)
def Q1:EE:=OP.ad 135 R5
def Rx:bB Q1:=EE.cP TC (by kernel_rfl) (S:=R5) (by rw [Yn];exact queue.HX)
@[irreducible] def Ol (x:af [z4,.int]):Option (af [z1]):=(ax.Ct:bI).F x
def Vr:bI:=⟨[z4,.int],[z1],Ol⟩
def X9:Vr=(ax.Ct:bI):=congrArg (bI.mk _ _) (funext fun x=>by unfold Ol;rfl)
def Pr:EE:=Q1.ad 136 Vr
def QY:bB Pr:=EE.cP Rx (by kernel_rfl) (S:=Vr) (by rw [X9];exact ax.G3 _)
@[irreducible] def P7 (x:af [z1,.int]):Option (af [z0,.bool]):=(queue.FU:bI).F x
def SD:bI:=⟨[z1,.int],[z0,.bool],P7⟩
def XQ:SD=(queue.FU:bI):=congrArg (bI.mk _ _) (funext fun x=>by unfold P7;rfl)
def Nu:EE:=Pr.ad 139 SD
def Sf:bB Nu:=EE.cP QY (by kernel_rfl) (S:=SD) (by rw [XQ];exact queue.Gg _)
@[irreducible] def Q7 (x:af [z1,z0]):Option (af [z1]):=(queue.Hh:bI).F x
def U6:bI:=⟨[z1,z0],[z1],Q7⟩
def WH:U6=(queue.Hh:bI):=congrArg (bI.mk _ _) (funext fun x=>by unfold Q7;rfl)
def ND:EE:=Nu.ad 141 U6
def RJ:bB ND:=EE.cP Sf (by kernel_rfl) (S:=U6) (by rw [WH];exact queue.Ik _)
@[irreducible] def J8 (x:af [(.row z1),.int]):Option (af [(.row z0)]):=(ax.dN:bI).F x
def SL:bI:=⟨[(.row z1),.int],[(.row z0)],J8⟩
def Yo:SL=(ax.dN:bI):=congrArg (bI.mk _ _) (funext fun x=>by unfold J8;rfl)
def PK:EE:=ND.ad 145 SL
def a0s:bB PK:=EE.cP RJ (by kernel_rfl) (S:=SL) (by rw [Yo];exact ax.uT)
@[irreducible] def O2 (x:af [z3,.int]):Option (af [z3,.int]):=(Qx.rL:bI).F x
def Sy:bI:=⟨[z3,.int],[z3,.int],O2⟩
def WD:Sy=(Qx.rL:bI):=congrArg (bI.mk _ _) (funext fun x=>by unfold O2;rfl)
def Pa:EE:=PK.ad 150 Sy
def Rv:bB Pa:=EE.cP a0s (by kernel_rfl) (S:=Sy) (by rw [WD];exact Qx.Ah)
@[irreducible] def My (x:af [(.row z4)]):Option (af [(.row z1)]):=(ax.wT:bI).F x
def SB:bI:=⟨[(.row z4)],[(.row z1)],My⟩
def XF:SB=(ax.wT:bI):=congrArg (bI.mk _ _) (funext fun x=>by unfold My;rfl)
def Nm:EE:=Pa.ad 153 SB
def TH:bB Nm:=EE.cP Rv (by kernel_rfl) (S:=SB) (by rw [XF];exact ax.Dj _)
@[irreducible] def KK (x:af [z0]):Option (af [.bool]):=(⟨[cg],[.bool],fun x=>some ((txn.Tx.mk x.1.1 x.1.2.1 x.1.2.2.1 x.1.2.2.2.1 x.1.2.2.2.2.1 x.1.2.2.2.2.2.1).ok,())⟩:bI).F x
def V8:bI:=⟨[z0],[.bool],KK⟩
def Xd:V8=(⟨[cg],[.bool],fun x=>some ((txn.Tx.mk x.1.1 x.1.2.1 x.1.2.2.1 x.1.2.2.2.1 x.1.2.2.2.2.1 x.1.2.2.2.2.2.1).ok,())⟩:bI):=congrArg (bI.mk _ _) (funext fun x=>by unfold KK;rfl)
def OJ:EE:=Nm.ad 163 V8
def UP:bB OJ:=EE.cP TH (by kernel_rfl) (S:=V8) (by rw [Xd];exact Gh (F:=fun s n t c g d=>(txn.Tx.mk s n t c g d).ok) (fun s n t c g d w h=>txn.check (txn.Tx.mk s n t c g d) w h))
@[irreducible] def O3 (x:af [z1,.int]):Option (af [z1]):=(queue.BW:bI).F x
def Ug:bI:=⟨[z1,.int],[z1],O3⟩
def Yf:Ug=(queue.BW:bI):=congrArg (bI.mk _ _) (funext fun x=>by unfold O3;rfl)
def Ph:EE:=OJ.ad 172 Ug
def Uy:bB Ph:=EE.cP UP (by kernel_rfl) (S:=Ug) (by rw [Yf];exact queue.Fb _)
@[irreducible] def Oo (x:af [z0]):Option (af [.str,.bool]):=(queue.H8:bI).F x
def SM:bI:=⟨[z0],[.str,.bool],Oo⟩
def WW:SM=(queue.H8:bI):=congrArg (bI.mk _ _) (funext fun x=>by unfold Oo;rfl)
def Vb:EE:=Ph.ad 202 SM
def RN:bB Vb:=EE.cP Uy (by kernel_rfl) (S:=SM) (by rw [WW];exact queue.HW)
def h_5:FH:=⟨[],[],[],[]⟩
@[irreducible] def OI (x:af [z0]):Option (af [.bool]):=xf Vb h_5 108 x
def Ue:EE:=Vb.ad 108 ⟨_,_,OI⟩
def Vc:bB Ue:=bR RN h_5 (by kernel_rfl) fun x=>by unfold OI;rfl
def h_6:FH:=⟨[],[(2,⟨[],0,⟨[.d (.row z0),.d .int]++an 3 ([.d .int]++an 16 []),[],[]⟩,[(.ret,⟨an 4 ([.d .bool]++an 17 []),[],[]⟩),(.exit 0,⟨[.d (.row z0),.d .int]++an 20 [],[],[]⟩)]⟩)],[],[]⟩
@[irreducible] def Mu (x:af [(.row z0),.int]):Option (af [.bool]):=xf Ue h_6 64 x
def Sb:EE:=Ue.ad 64 ⟨_,_,Mu⟩
def U1:bB Sb:=bR Vc h_6 (by kernel_rfl) fun x=>by unfold Mu;rfl
def h_7:FH:=⟨[],[(2,⟨[],0,⟨[.d (.row z1),.d .int]++an 3 ([.d .int]++an 17 []),[],[]⟩,[(.ret,⟨an 4 ([.d .bool]++an 18 []),[],[]⟩),(.exit 0,⟨[.d (.row z1),.d .int]++an 21 [],[],[]⟩)]⟩)],[],[]⟩
@[irreducible] def Mg (x:af [(.row z1),.int]):Option (af [.bool]):=xf Sb h_7 31 x
def Vd:EE:=Sb.ad 31 ⟨_,_,Mg⟩
def RX:bB Vd:=bR U1 h_7 (by kernel_rfl) fun x=>by unfold Mg;rfl
def h_8:FH:=⟨[],[(2,⟨[],0,⟨[.any,.p 0 0,.any,.d .int]++an 25 [],[some ([.d z5],38)],[]⟩,[(.ret,⟨[.any,.any,.d .bool]++an 26 [],[],[]⟩),(.exit 0,⟨[.any,.p 0 0]++an 27 [],[some ([.d z5],38)],[]⟩)]⟩)],[],[]⟩
@[irreducible] def Me (x:af [z5]):Option (af [.bool]):=xf Vd h_8 9 x
def QM:EE:=Vd.ad 9 ⟨_,_,Me⟩
def Ro:bB QM:=bR RX h_8 (by kernel_rfl) fun x=>by unfold Me;rfl
def VM:FH:=⟨[],[],[],[]⟩
@[irreducible] def F_7 (x:af [.int,.int,.int]):Option (af [.bool]):=xf QM VM 109 x
def Vp:EE:=QM.ad 109 ⟨_,_,F_7⟩
def Vi:bB Vp:=bR Ro VM (by kernel_rfl) fun x=>by unfold F_7;rfl
def Wb:FH:=⟨[],[],[],[]⟩
@[irreducible] def Nf (x:af [z2]):Option (af [.bool]):=xf Vp Wb 65 x
def QV:EE:=Vp.ad 65 ⟨_,_,Nf⟩
def TK:bB QV:=bR Vi Wb (by kernel_rfl) fun x=>by unfold Nf;rfl
def Wx:FH:=⟨[],[],[],[]⟩
@[irreducible] def ON (x:af [.int]):Option (af [(.row .int),.int]):=xf QV Wx 66 x
def U0:EE:=QV.ad 66 ⟨_,_,ON⟩
def a0p:bB U0:=bR TK Wx (by kernel_rfl) fun x=>by unfold ON;rfl
def Wc:FH:=⟨[],[],[],[]⟩
@[irreducible] def OU (x:af [z3]):Option (af [.bool]):=xf U0 Wc 110 x
def Ve:EE:=U0.ad 110 ⟨_,_,OU⟩
def UY:bB Ve:=bR a0p Wc (by kernel_rfl) fun x=>by unfold OU;rfl
def VO:FH:=⟨[],[],[],[]⟩
@[irreducible] def PE (x:af [.int]):Option (af [z3,.int]):=xf Ve VO 67 x
def TR:EE:=Ve.ad 67 ⟨_,_,PE⟩
def RB:bB TR:=bR UY VO (by kernel_rfl) fun x=>by unfold PE;rfl
def W8:FH:=⟨[(5,(aK [0,1,2,3,4,5,6] [7,8],[]))],[],[],[]⟩
@[irreducible] def Ji (x:af [z2]):Option (af [z5,.int]):=Tr Tryz.prog { EN with soonM:=[44] } TR W8 32 [z2] [z5,.int] x
def XR:bI:=⟨[z2],[z5,.int],Ji⟩
def Qw:EE:=TR.ad 32 XR
def Sq:Qw.gM.nq gI.env Tryz.prog txn.bA { EN with soonM:=[44] }:=EE.xT (EE.Nh RB [44]) rfl hB (by kernel_rfl) (H:=W8) (congrArg (bI.mk _ _) (funext fun x=>by unfold Ji;rfl))
def R7:bB Qw:=EE.Sm (E':=EN) [44] Sq
def Wk:FH:=⟨[],[],[],[]⟩
@[irreducible] def Mp (x:af [z0]):Option (af [.bool]):=xf Qw Wk 68 x
def Up:EE:=Qw.ad 68 ⟨_,_,Mp⟩
def Re:bB Up:=bR R7 Wk (by kernel_rfl) fun x=>by unfold Mp;rfl
def VL:FH:=⟨[],[(6,⟨[.share 4],0,⟨[.any,.p 0 0,.any,.any,.d (.row .int),.d .str,.d .int]++an 32 [],[some ([.d z0],26)],[]⟩,[(.exit 0,⟨[.any,.p 0 0]++an 3 ([.d .str]++an 33 []),[some ([.d z0],26)],[]⟩)]⟩)],[],[]⟩
@[irreducible] def IZ (x:af [z0]):Option (af [.str,.bool]):=xf Up VL 33 x
def Tv:bI:=⟨[z0],[.str,.bool],IZ⟩
def SZ:EE:=Up.ad 33 Tv
def SY:bB SZ:=bR Re VL (by kernel_rfl) fun x=>by unfold IZ;rfl
def h_i:FH:=⟨[],[],[],[]⟩
@[irreducible] def IJ (x:af [z8]):Option (af [ji]):=xf SZ h_i 34 x
def TG:EE:=SZ.ad 34 ⟨_,_,IJ⟩
def V0:bB TG:=bR SY h_i (by kernel_rfl) fun x=>by unfold IJ;rfl
def VW:FH:=⟨[],[],[],[]⟩
@[irreducible] def LN (x:af [.int,.int,.int]):Option (af [.bool]):=xf TG VW 156 x
def Sc:EE:=TG.ad 156 ⟨_,_,LN⟩
def UC:bB Sc:=bR V0 VW (by kernel_rfl) fun x=>by unfold LN;rfl
def Wo:FH:=⟨[],[(3,⟨[],0,⟨[.any,.p 0 0,.any,.d .int]++an 5 ([.d (.row z0),.d .int,.d .int]++an 23 []),[some ([.d z1],90)],[]⟩,[(.ret,⟨[.any,.any,.d .bool]++an 32 [],[],[]⟩),(.exit 0,⟨an 35 [],[],[]⟩)]⟩)],[],[]⟩
@[irreducible] def NY (x:af [z1]):Option (af [.bool]):=xf Sc Wo 157 x
def SA:EE:=Sc.ad 157 ⟨_,_,NY⟩
def SC:bB SA:=bR UC Wo (by kernel_rfl) fun x=>by unfold NY;rfl
def VT:FH:=⟨[],[],[],[]⟩
@[irreducible] def ID (x:af [z1,.int]):Option (af [.bool]):=xf SA VT 130 x
def SI:EE:=SA.ad 130 ⟨_,_,ID⟩
def Us:bB SI:=bR SC VT (by kernel_rfl) fun x=>by unfold ID;rfl
def Wa:FH:=⟨[],[],[],[]⟩
@[irreducible] def Jd (x:af [z1]):Option (af [.bool]):=xf SI Wa 131 x
def RG:EE:=SI.ad 131 ⟨_,_,Jd⟩
def RO:bB RG:=bR Us Wa (by kernel_rfl) fun x=>by unfold Jd;rfl
def Wv:FH:=⟨[(6,(line [0,1,2,3,4,5,6,7,8,9,10,11,12,13],[]))],[(4,⟨[],0,⟨[.any,.d .int,.any,.p 0 0,.any,.p 1 0]++an 12 ([.d (.row z1),.d .int,.d .int]++an 37 []),[some ([.d z4],112),some ([.d z2],34)],[]⟩,[(.ret,⟨an 6 ([.d .bool]++an 51 []),[],[]⟩),(.exit 0,⟨an 58 [],[],[]⟩)]⟩)],[],[]⟩
@[irreducible] def MK (x:af [z4,.int,z2]):Option (af [.bool]):=xf RG Wv 90 x
def UJ:EE:=RG.ad 90 ⟨_,_,MK⟩
def TQ:bB UJ:=bR RO Wv (by kernel_rfl) fun x=>by unfold MK;rfl
def VX:FH:=⟨[(7,(line [0,1,2,3,4,5,6,7,8,9,10,11,12,13,14,15,16,17],[]))],[(5,⟨[],0,⟨[.any,.p 0 0]++an 24 ([.d .int,.d .int]++an 43 []),[some ([.d z5],46)],[]⟩,[(.ret,⟨[.any,.any,.d .bool]++an 68 [],[],[]⟩),(.exit 0,⟨[.any,.p 0 0]++an 69 [],[some ([.d z5],46)],[]⟩)]⟩)],[],[]⟩
@[irreducible] def LD (x:af [z5]):Option (af [.bool]):=xf UJ VX 48 x
def RH:EE:=UJ.ad 48 ⟨_,_,LD⟩
def Vo:bB RH:=bR TQ VX (by kernel_rfl) fun x=>by unfold LD;rfl
def VJ:FH:=⟨[],[],[],[]⟩
@[irreducible] def Ku (x:af [(.row .int),.int]):Option (af [.bool]):=xf RH VJ 91 x
def Rf:EE:=RH.ad 91 ⟨_,_,Ku⟩
def UX:bB Rf:=bR Vo VJ (by kernel_rfl) fun x=>by unfold Ku;rfl
def Vw:FH:=⟨[],[],[],[]⟩
@[irreducible] def J7 (x:af [(.row .int),.int]):Option (af [.bool]):=xf Rf Vw 49 x
def SP:EE:=Rf.ad 49 ⟨_,_,J7⟩
def TB:bB SP:=bR UX Vw (by kernel_rfl) fun x=>by unfold J7;rfl
def VP:FH:=⟨[],[],[],[]⟩
@[irreducible] def P6 (x:af [ji,z5]):Option (af [.int]):=xf SP VP 112 x
def U4:EE:=SP.ad 112 ⟨_,_,P6⟩
def QO:bB U4:=bR TB VP (by kernel_rfl) fun x=>by unfold P6;rfl
def W3:FH:=⟨[],[(2,⟨[],0,⟨[.d (.row .int),.d .int]++an 5 ([.d .int,.d .int]++an 10 []),[],[]⟩,[(.ret,⟨an 4 ([.d .int]++an 14 []),[],[]⟩),(.exit 0,⟨an 19 [],[],[]⟩)]⟩)],[],[]⟩
@[irreducible] def MN (x:af [(.row .int),.int]):Option (af [.int]):=xf U4 W3 94 x
def TX:EE:=U4.ad 94 ⟨_,_,MN⟩
def S5:bB TX:=bR QO W3 (by kernel_rfl) fun x=>by unfold MN;rfl
def Wi:FH:=⟨[],[],[],[]⟩
@[irreducible] def DT (x:af [(.row .int),.int]):Option (af [.bool]):=xf TX Wi 51 x
def S4:EE:=TX.ad 51 ⟨_,_,DT⟩
def RK:bB S4:=bR S5 Wi (by kernel_rfl) fun x=>by unfold DT;rfl
def VR:FH:=⟨[],[],[],[]⟩
@[irreducible] def Jx (x:af [.int]):Option (af [.bool]):=xf S4 VR 133 x
def Ry:EE:=S4.ad 133 ⟨_,_,Jx⟩
def QK:bB Ry:=bR RK VR (by kernel_rfl) fun x=>by unfold Jx;rfl
def VI:FH:=⟨[],[],[],[]⟩
@[irreducible] def Ld (x:af [(.row .int),.int,.int]):Option (af [.bool]):=xf Ry VI 95 x
def UU:EE:=Ry.ad 95 ⟨_,_,Ld⟩
def Sj:bB UU:=bR QK VI (by kernel_rfl) fun x=>by unfold Ld;rfl
def VK:FH:=⟨[],[],[],[]⟩
@[irreducible] def FQ (x:af [(.row .int),.int,.int]):Option (af [.bool]):=xf UU VK 93 x
def Pj:EE:=UU.ad 93 ⟨_,_,FQ⟩
def QS:bB Pj:=bR Sj VK (by kernel_rfl) fun x=>by unfold FQ;rfl
def Mw:FH:=⟨[],[(2,⟨[],0,⟨[.d (.row .int),.any,.d .int,.d (.num 7)]++an 5 ([.d .int]++an 15 []),[],[]⟩,[(.ret,⟨an 8 ([.d .int]++an 16 []),[],[]⟩),(.exit 0,⟨[.d (.row .int)]++an 24 [],[],[]⟩)]⟩)],[],[]⟩
@[irreducible] def H7 (x:af [(.row .int),.int,.int,(.num 7)]):Option (af [.int]):=xf Pj Mw 92 x
def UH:EE:=Pj.ad 92 ⟨_,_,H7⟩
def Rq:bB UH:=bR QS Mw (by kernel_rfl) fun x=>by unfold H7;rfl
def W4:FH:=⟨[],[(3,⟨[.slot 5 3 .int],0,⟨[.d (.row .int),.d .int]++an 3 ([.r 0,.d .int]++an 17 []),[],[some (3,1,.int)]⟩,[(.exit 0,⟨an 5 ([.r 0]++an 18 []),[],[some (3,1,.int)]⟩)]⟩)],[],[]⟩
@[irreducible] def Gl (x:af [(.row .int),.int]):Option (af [(.row .int)]):=xf UH W4 52 x
def UL:EE:=UH.ad 52 ⟨_,_,Gl⟩
def SH:bB UL:=bR Rq W4 (by kernel_rfl) fun x=>by unfold Gl;rfl
def VV:FH:=⟨[(7,(line [0,1,2,3,4,5,6],[])),(12,(line [0,1,2,4,5,3,6,7,8],[]))],[],[],[]⟩
@[irreducible] def Nn (x:af [ji,.int,z5]):Option (af [.bool]):=xf UL VV 71 x
def RL:EE:=UL.ad 71 ⟨_,_,Nn⟩
def Sg:bB RL:=bR SH VV (by kernel_rfl) fun x=>by unfold Nn;rfl
def Ww:FH:=⟨[],[],[],[]⟩
@[irreducible] def Pk (x:af []):Option (af [Vv]):=xf RL Ww 72 x
def R6:EE:=RL.ad 72 ⟨_,_,Pk⟩
def UM:bB R6:=bR Sg Ww (by kernel_rfl) fun x=>by unfold Pk;rfl
def VN:FH:=⟨[],[],[],[]⟩
@[irreducible] def Od (x:af [ji]):Option (af [ji]):=xf R6 VN 73 x
def RS:EE:=R6.ad 73 ⟨_,_,Od⟩
def RE:bB RS:=bR UM VN (by kernel_rfl) fun x=>by unfold Od;rfl
def Wg:FH:=⟨[],[(4,⟨[],0,⟨[.any,.p 0 0,.p 1 0]++an 13 ([.d .int,.d .int]++an 33 []),[some ([.d .int,.d .int,.d .int,.d .int,.d .int,.d .int,.d .int,.d .int,.r 0,.d .int,.d .int,.r 1],46),some ([.d z5],46)],[some (3,1,.int),some (112,2,z4)]⟩,[(.exit 0,⟨[.any,.p 0 0,.p 1 0]++an 48 [],[some ([.d .int,.d .int,.d .int,.d .int,.d .int,.d .int,.d .int,.d .int,.r 0,.d .int,.d .int,.r 1],46),some ([.d z5],46)],[some (3,1,.int),some (112,2,z4)]⟩)]⟩),(8,⟨[],0,⟨[.any,.p 0 0,.p 1 0,.d .int,.r 0]++an 11 ([.d .int,.d .int]++an 10 ([.d .int,.d .int]++an 21 [])),[some ([.d .int,.d .int,.d .int,.d .int,.d .int,.d .int,.d .int,.d .int,.r 1,.d .int,.d .int,.r 2],46),some ([.d z5],46)],[some (90,3,z1),some (3,1,.int),some (112,2,z4)]⟩,[(.exit 2,⟨[.any,.p 0 0,.p 1 0,.d .int,.r 0]++an 11 ([.d .int,.d .int]++an 33 []),[some ([.d .int,.d .int,.d .int,.d .int,.d .int,.d .int,.d .int,.d .int,.r 1,.d .int,.d .int,.r 2],46),some ([.d z5],46)],[some (90,3,z1),some (3,1,.int),some (112,2,z4)]⟩)]⟩)],[],[]⟩
@[irreducible] def Pc (x:af [z5]):Option (af [z5]):=xf RS Wg 74 x
def TF:EE:=RS.ad 74 ⟨_,_,Pc⟩
def UA:bB TF:=bR RE Wg (by kernel_rfl) fun x=>by unfold Pc;rfl
def Wf:FH:=⟨[],[],[],[]⟩
@[irreducible] def Ou (x:af [.int]):Option (af [.bool]):=xf TF Wf 181 x
def Uc:EE:=TF.ad 181 ⟨_,_,Ou⟩
def Rb:bB Uc:=bR UA Wf (by kernel_rfl) fun x=>by unfold Ou;rfl
def Wu:FH:=⟨[],[],[],[]⟩
@[irreducible] def OX (x:af [z8]):Option (af [.int,.bool]):=xf Uc Wu 148 x
def V6:EE:=Uc.ad 148 ⟨_,_,OX⟩
def UZ:bB V6:=bR Rb Wu (by kernel_rfl) fun x=>by unfold OX;rfl
def W7:FH:=⟨[],[],[],[]⟩
@[irreducible] def PB (x:af [.int,.int]):Option (af [.bool]):=xf V6 W7 215 x
def Ri:EE:=V6.ad 215 ⟨_,_,PB⟩
def UR:bB Ri:=bR UZ W7 (by kernel_rfl) fun x=>by unfold PB;rfl
def Wy:FH:=⟨[],[],[],[]⟩
@[irreducible] def Nt (x:af [.int,.int]):Option (af [.int,.bool]):=xf Ri Wy 201 x
def Sw:EE:=Ri.ad 201 ⟨_,_,Nt⟩
def UK:bB Sw:=bR UR Wy (by kernel_rfl) fun x=>by unfold Nt;rfl
def VU:FH:=⟨[],[],[],[]⟩
@[irreducible] def NL (x:af [.int]):Option (af [.int]):=xf Sw VU 203 x
def Sz:EE:=Sw.ad 203 ⟨_,_,NL⟩
def Uo:bB Sz:=bR UK VU (by kernel_rfl) fun x=>by unfold NL;rfl
def W6:FH:=⟨[],[],[],[]⟩
@[irreducible] def Pu (x:af [z0]):Option (af [.int]):=xf Sz W6 167 x
def QZ:EE:=Sz.ad 167 ⟨_,_,Pu⟩
def RY:bB QZ:=bR Uo W6 (by kernel_rfl) fun x=>by unfold Pu;rfl
def VQ:FH:=⟨[(4,(line [0,2,1,3,4,5,6],[]))],[],[],[]⟩
@[irreducible] def Q6 (x:af [z0,z0,.int]):Option (af [.int,.int]):=xf QZ VQ 166 x
def Ur:EE:=QZ.ad 166 ⟨_,_,Q6⟩
def Um:bB Ur:=bR RY VQ (by kernel_rfl) fun x=>by unfold Q6;rfl
def VH:FH:=⟨[],[],[],[]⟩
@[irreducible] def MY (x:af [z1,z0,.int,.int]):Option (af [.int,.int]):=xf Ur VH 137 x
def Se:EE:=Ur.ad 137 ⟨_,_,MY⟩
def SW:bB Se:=bR Um VH (by kernel_rfl) fun x=>by unfold MY;rfl
def VE:FH:=⟨[],[(3,⟨[],0,⟨an 3 ([.d .int]++an 3 ([.d (.row z0),.d .int,.d .int]++an 9 [])),[],[]⟩,[(.exit 0,⟨an 3 ([.d .int]++an 15 []),[],[]⟩)]⟩)],[],[]⟩
@[irreducible] def OK (x:af [z1]):Option (af [.int]):=xf Se VE 168 x
def Ss:EE:=Se.ad 168 ⟨_,_,OK⟩
def S6:bB Ss:=bR SW VE (by kernel_rfl) fun x=>by unfold OK;rfl
def WA:FH:=⟨[(1,(aK [0,1,2,3,4,5,7,10,11,6,8,9,12] [13],[]))],[],[],[]⟩
@[irreducible] def Pn (x:af [z1,z1,z6]):Option (af [Ws]):=xf Ss WA 213 x
def Rk:EE:=Ss.ad 213 ⟨_,_,Pn⟩
def SJ:bB Rk:=bR S6 WA (by kernel_rfl) fun x=>by unfold Pn;rfl
def Wr:FH:=⟨[],[(2,⟨[.cell 3 5 149 z9],0,⟨[.any,.d .int,.any,.p 0 0,.any,.any,.p 1 0,.any,.any,.d (.row z0),.d .int,.d .int]++an 14 [],[some ([.d .bool,.d .int,.d .int,.d .int,.d (.row z0),.r 0,.d .int,.d .int,.d .int,.d .int,.d .int,.d .int,.d .str,.d (.row z0),.d .int],92),some ([.d Cu],92)],[some (149,8,z9)]⟩,[(.exit 0,⟨an 3 ([.p 0 0,.any,.any,.p 1 0]++an 19 []),[some ([.d .bool,.d .int,.d .int,.d .int,.d (.row z0),.r 0,.d .int,.d .int,.d .int,.d .int,.d .int,.d .int,.d .str,.d (.row z0),.d .int],92),some ([.d Cu],92)],[some (149,8,z9)]⟩)]⟩)],[],[]⟩
@[irreducible] def Py (x:af [Ws,.int,(.row z0)]):Option (af [Cu]):=xf Rk Wr 214 x
def RF:EE:=Rk.ad 214 ⟨_,_,Py⟩
def Si:bB RF:=bR SJ Wr (by kernel_rfl) fun x=>by unfold Py;rfl
def VS:FH:=⟨[],[],[],[]⟩
@[irreducible] def OA (x:af [.int]):Option (af [Cu]):=xf RF VS 186 x
def Rj:EE:=RF.ad 186 ⟨_,_,OA⟩
def Uf:bB Rj:=bR Si VS (by kernel_rfl) fun x=>by unfold OA;rfl
def VD:FH:=⟨[(11,(p9 [0,1,2,4,6,7] (.fork 3 (.fork 5 (aK [8,9] [10]) 8 (aK [5,9] [10])) 8 (aK [3,5,9] [10])),[]))],[],[],[(11,⟨an 6 ([.p 0 0]++an 47 []),[some ([.d Cu],92)],[]⟩)]⟩
@[irreducible] def PI (x:af [z2,z1,.str]):Option (af [Cu]):=xf Rj VD 182 x
def TN:EE:=Rj.ad 182 ⟨_,_,PI⟩
def Vs:bB TN:=bR Uf VD (by kernel_rfl) fun x=>by unfold PI;rfl
def Vx:FH:=⟨[(4,(p9 [0,1,2,4,5,7] (.fork 3 (.fork 6 (aK [8,9] [10]) 8 (aK [6,9] [10])) 8 (aK [3,6,9] [10])),[]))],[],[],[(4,⟨an 4 ([.p 0 0]++an 21 []),[some ([.d Cu],92)],[]⟩)]⟩
@[irreducible] def Pf (x:af [z1,.int]):Option (af [Cu]):=xf TN Vx 183 x
def RW:EE:=TN.ad 183 ⟨_,_,Pf⟩
def Sn:bB RW:=bR Vs Vx (by kernel_rfl) fun x=>by unfold Pf;rfl
def VF:FH:=⟨[],[],[],[]⟩
@[irreducible] def MZ (x:af [.int,.int]):Option (af [.int]):=xf RW VF 173 x
def Rr:EE:=RW.ad 173 ⟨_,_,MZ⟩
def TI:bB Rr:=bR Sn VF (by kernel_rfl) fun x=>by unfold MZ;rfl
def Vy:FH:=⟨[],[(7,⟨[.slot 8 26 z0,.slot 9 26 z0],0,⟨[.any,.d .int,.p 0 0,.any,.p 1 0]++an 3 ([.r 0,.r 1]++an 15 ([.d (.row z0),.d .int,.d .int]++an 22 [])),[some ([.d z1],90),some ([.d z1],90)],[some (26,6,z0),some (26,6,z0)]⟩,[(.exit 0,⟨[.any,.d .int,.p 0 0,.any,.p 1 0]++an 3 ([.r 0,.r 1]++an 40 []),[some ([.d z1],90),some ([.d z1],90)],[some (26,6,z0),some (26,6,z0)]⟩)]⟩)],[],[]⟩
@[irreducible] def a0e (x:af [z1,.int]):Option (af [z1,(.row z0),.int]):=xf Rr Vy 144 x
def Sa:EE:=Rr.ad 144 ⟨_,_,a0e⟩
def Un:bB Sa:=bR TI Vy (by kernel_rfl) fun x=>by unfold a0e;rfl
def W9:FH:=⟨[],[],[],[]⟩
@[irreducible] def Nl (x:af [z1,.int]):Option (af [Cu]):=xf Sa W9 184 x
def UN:EE:=Sa.ad 184 ⟨_,_,Nl⟩
def SF:bB UN:=bR Un W9 (by kernel_rfl) fun x=>by unfold Nl;rfl
def Wm:FH:=⟨[],[],[],[]⟩
@[irreducible] def Qe (x:af [z1,.int]):Option (af [Cu]):=xf UN Wm 185 x
def Rl:EE:=UN.ad 185 ⟨_,_,Qe⟩
def V5:bB Rl:=bR SF Wm (by kernel_rfl) fun x=>by unfold Qe;rfl
def VB:FH:=⟨[],[],[],[]⟩
@[irreducible] def OQ (x:af [z2,z1,z8]):Option (af [Cu]):=xf Rl VB 149 x
def V3:EE:=Rl.ad 149 ⟨_,_,OQ⟩
def SG:bB V3:=bR V5 VB (by kernel_rfl) fun x=>by unfold OQ;rfl
def PX:FH:=⟨[(4,(line [0,1,2,3,4,5],[2,3])),(7,(line [0,1,2,3,4,5],[2,3]))],[],[],[]⟩
@[irreducible] def MX (x:af [ji,.int,z5]):Option (af [ji,z5,(.row z9),.bool]):=xf V3 PX 113 x
def Uk:EE:=V3.ad 113 ⟨_,_,MX⟩
def U9:bB Uk:=bR SG PX (by kernel_rfl) fun x=>by unfold MX;rfl
def OW:FH:=⟨[],[],[],[]⟩
@[irreducible] def Md (x:af [(.row .int),.int,.int]):Option (af [(.row .int)]):=xf Uk OW 154 x
def TO:EE:=Uk.ad 154 ⟨_,_,Md⟩
def Vf:bB TO:=bR U9 OW (by kernel_rfl) fun x=>by unfold Md;rfl
def Qd:FH:=⟨[],[],[],[]⟩
@[irreducible] def Ew (x:af [(.row .int),.int,.int]):Option (af [(.row .int),.int]):=xf TO Qd 125 x
def R8:EE:=TO.ad 125 ⟨_,_,Ew⟩
def U2:bB R8:=bR Vf Qd (by kernel_rfl) fun x=>by unfold Ew;rfl
def N7:FH:=⟨[(1,(aK [0,1,2,3,5,4,6,7,8,9,10] [11],[])),(3,(line [0,1,2,3,4,5],[2,3]))],[],[],[]⟩
@[irreducible] def Nk (x:af [ji,.int,z5]):Option (af [ji,z5,(.row z9),.bool]):=xf R8 N7 114 x
def L5:EE:=R8.ad 114 ⟨_,_,Nk⟩
def S9:bB L5:=bR U2 N7 (by kernel_rfl) fun x=>by unfold Nk;rfl
def Ot:FH:=⟨[(1,(p9 [0,1,2,3,7,8] (.fork 4 (p9 [5,6] (.fork 9 (aK [10] [11]) 10 (aK [9] [11]))) 10 (aK [4,5,6,9] [11])),[])),(5,(line [0,1,2,3,4,5],[2,3])),(7,(line [0,1,2,3,4,5],[2,3]))],[],[],[(1,⟨an 3 ([.p 0 0,.any,.p 1 0,.p 2 0,.p 3 0,.any,.any,.p 4 0]++an 30 []),[some ([.d ji],94),some ([.d z5],46),some ([.d ji],94),some ([.d z5],46),some ([.d z1],90)],[]⟩)]⟩
@[irreducible] def MP (x:af [ji,.int,z5]):Option (af [ji,z5,(.row z9),.bool]):=xf L5 Ot 115 x
def K3:EE:=L5.ad 115 ⟨_,_,MP⟩
def Ua:bB K3:=bR S9 Ot (by kernel_rfl) fun x=>by unfold MP;rfl
def OS:FH:=⟨[],[],[],[]⟩
@[irreducible] def Nb (x:af [Cu]):Option (af [z6]):=xf K3 OS 151 x
def Lj:EE:=K3.ad 151 ⟨_,_,Nb⟩
def a0G:bB Lj:=bR Ua OS (by kernel_rfl) fun x=>by unfold Nb;rfl
def Oh:FH:=⟨[(4,(line [0,1,2,3,4,5],[2,3])),(7,(line [0,1,2,3,4,5,6,7,8],[2,3]))],[],[],[]⟩
@[irreducible] def Pg (x:af [ji,.int,z5]):Option (af [ji,z5,(.row z9),.bool]):=xf Lj Oh 116 x
def Mb:EE:=Lj.ad 116 ⟨_,_,Pg⟩
def TM:bB Mb:=bR a0G Oh (by kernel_rfl) fun x=>by unfold Pg;rfl
def O0:FH:=⟨[],[],[],[]⟩
@[irreducible] def Om (x:af [z1]):Option (af [z1]):=xf Mb O0 165 x
def Kg:EE:=Mb.ad 165 ⟨_,_,Om⟩
def Vq:bB Kg:=bR TM O0 (by kernel_rfl) fun x=>by unfold Om;rfl
def Po:FH:=⟨[],[(3,⟨[],0,⟨[.d (.row (.row z1)),.any,.any,.d .int]++an 5 ([.d (.row (.row z1)),.d .int,.d .int]++an 24 []),[],[]⟩,[(.exit 0,⟨[.d (.row (.row z1)),.any,.any,.d .int]++an 32 [],[],[]⟩)]⟩),(11,⟨[],0,⟨an 6 ([.r 0]++an 18 ([.d (.row (.row z1)),.d .int,.d .int]++an 8 [])),[],[some (90,3,z1)]⟩,[(.exit 2,⟨an 6 ([.r 0]++an 29 []),[],[some (90,3,z1)]⟩)]⟩)],[],[]⟩
@[irreducible] def Nq (x:af [(.row (.row z1))]):Option (af [(.row z1)]):=xf Kg Po 190 x
def Lc:EE:=Kg.ad 190 ⟨_,_,Nq⟩
def Su:bB Lc:=bR Vq Po (by kernel_rfl) fun x=>by unfold Nq;rfl
def Oj:FH:=⟨[],[],[],[]⟩
@[irreducible] def PV (x:af [.int]):Option (af [.int]):=xf Lc Oj 191 x
def Kx:EE:=Lc.ad 191 ⟨_,_,PV⟩
def St:bB Kx:=bR Su Oj (by kernel_rfl) fun x=>by unfold PV;rfl
def NQ:FH:=⟨[(12,(aK [0,1,4,5,2,3,6,7] [8],[]))],[(3,⟨[.slot 6 90 z1,.slot 5 90 z1],0,⟨[.any,.any,.p 0 0,.p 1 0,.p 2 0,.r 0,.r 1]++an 3 ([.d (.row z1),.d .int,.d .int]++an 45 []),[some ([.d z4],112),some ([.d z1],90),some ([.d z4],112)],[some (90,3,z1),some (90,3,z1)]⟩,[(.exit 0,⟨[.any,.any,.p 0 0,.p 1 0,.p 2 0,.r 0,.r 1]++an 51 [],[some ([.d z4],112),some ([.d z1],90),some ([.d z4],112)],[some (90,3,z1),some (90,3,z1)]⟩)]⟩)],[(12,[0,1])],[]⟩
@[irreducible] def OT (x:af [z4,z1]):Option (af [z4]):=xf Kx NQ 152 x
def LW:EE:=Kx.ad 152 ⟨_,_,OT⟩
def V4:bB LW:=bR St NQ (by kernel_rfl) fun x=>by unfold OT;rfl
def Nw:FH:=⟨[(3,(aK [0,1,2,3,4,5,6,7,8,9,10,11,12] [13],[])),(5,(line [0,1,2,3,4,5],[2,3]))],[],[(5,[0])],[]⟩
@[irreducible] def P8 (x:af [ji,.int,z5]):Option (af [ji,z5,(.row z9),.bool]):=xf LW Nw 117 x
def Lx:EE:=LW.ad 117 ⟨_,_,P8⟩
def Vm:bB Lx:=bR V4 Nw (by kernel_rfl) fun x=>by unfold P8;rfl
def O9:FH:=⟨[],[],[],[]⟩
@[irreducible] def EK (x:af [(.row .int),.int,.int]):Option (af [(.row .int),.int]):=xf Lx O9 126 x
def Li:EE:=Lx.ad 126 ⟨_,_,EK⟩
def Vh:bB Li:=bR Vm O9 (by kernel_rfl) fun x=>by unfold EK;rfl
def NX:FH:=⟨[(1,(aK [0,1,2,3,5,4,6,7,8,9,10] [11],[])),(3,(line [0,1,2,3,4,5],[2,3]))],[],[],[]⟩
@[irreducible] def Pv (x:af [ji,.int,z5]):Option (af [ji,z5,(.row z9),.bool]):=xf Li NX 118 x
def K2:EE:=Li.ad 118 ⟨_,_,Pv⟩
def R9:bB K2:=bR Vh NX (by kernel_rfl) fun x=>by unfold Pv;rfl
def PT:FH:=⟨[(4,(aK [1,2,4,5,6,0,3,7,8,9,10,11,12] [13,14,15,16],[])),(6,(aK [0,2,4,6,1,3,5] [7,8,9,10],[]))],[],[],[]⟩
@[irreducible] def F_5 (x:af [ji,.int,z5]):Option (af [ji,z5,(.row z9),.bool]):=xf K2 PT 35 x
def Jv:EE:=K2.ad 35 ⟨_,_,F_5⟩
def V2:bB Jv:=bR R9 PT (by kernel_rfl) fun x=>by unfold F_5;rfl
def O4:FH:=⟨[],[],[],[]⟩
@[irreducible] def EV (x:af [(.row .int),.int]):Option (af [.int]):=xf Jv O4 50 x
def KM:EE:=Jv.ad 50 ⟨_,_,EV⟩
def S3:bB KM:=bR V2 O4 (by kernel_rfl) fun x=>by unfold EV;rfl
def Np:FH:=⟨[(11,(line [0,1,2,4,5,6,3,7,8],[])),(13,(line [0,1,2,4,5,3,6,7],[]))],[],[],[]⟩
@[irreducible] def F_9 (x:af [z7,.int,z5]):Option (af [.bool]):=xf KM Np 22 x
def VZ:bI:=⟨[z7,.int,z5],[.bool],F_9⟩
def LL:EE:=KM.ad 22 VZ
def Vg:bB LL:=bR S3 Np (by kernel_rfl) fun x=>by unfold F_9;rfl
def NB:FH:=⟨[],[(3,⟨[],0,⟨[.r 0]++an 8 ([.d .int,.d .int]++an 31 []),[],[some (112,2,z4)]⟩,[(.exit 0,⟨[.r 0]++an 41 [],[],[some (112,2,z4)]⟩)]⟩),(7,⟨[],0,⟨[.r 0,.any,.any,.d .int,.r 1]++an 4 ([.d .int,.d .int]++an 9 ([.d .int,.d .int]++an 20 [])),[],[some (112,2,z4),some (90,3,z1)]⟩,[(.exit 2,⟨[.r 0,.any,.any,.d .int,.r 1]++an 4 ([.d .int,.d .int]++an 31 []),[],[some (112,2,z4),some (90,3,z1)]⟩)]⟩)],[],[]⟩
@[irreducible] def Mq (x:af [(.row z4)]):Option (af [(.row z4)]):=xf LL NB 83 x
def Js:EE:=LL.ad 83 ⟨_,_,Mq⟩
def Rp:bB Js:=bR Vg NB (by kernel_rfl) fun x=>by unfold Mq;rfl
def Oe:FH:=⟨[],[],[],[]⟩
@[irreducible] def Ml (x:af [z7]):Option (af [z7]):=xf Js Oe 38 x
def Ub:bI:=⟨[z7],[z7],Ml⟩
def JE:EE:=Js.ad 38 Ub
def Sk:bB JE:=bR Rp Oe (by kernel_rfl) fun x=>by unfold Ml;rfl
def MQ:FH:=⟨[],[],[],[]⟩
@[irreducible] def Mc (x:af [z5]):Option (af [z5]):=xf JE MQ 39 x
def Ui:bI:=⟨[z5],[z5],Mc⟩
def Lo:EE:=JE.ad 39 Ui
def Sr:bB Lo:=bR Sk MQ (by kernel_rfl) fun x=>by unfold Mc;rfl
def Pd:FH:=⟨[],[],[],[]⟩
@[irreducible] def F_3 (x:af [.int]):Option (af [z7]):=xf Lo Pd 24 x
def L1:EE:=Lo.ad 24 ⟨_,_,F_3⟩
def Ul:bB L1:=bR Sr Pd (by kernel_rfl) fun x=>by unfold F_3;rfl
def Ns:FH:=⟨[],[(3,⟨[.slot 3 112 z4],0,⟨[.d (.row z4),.any,.any,.r 0,.d .int]++an 14 [],[],[some (112,2,z4)]⟩,[(.exit 0,⟨an 3 ([.r 0]++an 15 []),[],[some (112,2,z4)]⟩)]⟩)],[],[]⟩
@[irreducible] def Mz (x:af [(.row z4)]):Option (af [(.row z4)]):=xf L1 Ns 36 x
def LB:EE:=L1.ad 36 ⟨_,_,Mz⟩
def a0P:bB LB:=bR Ul Ns (by kernel_rfl) fun x=>by unfold Mz;rfl
def NU:FH:=⟨[(1,(aK [0,1,2,3,4,5,6,7,8,9] [10],[]))],[],[],[]⟩
@[irreducible] def F_4 (x:af [z5]):Option (af [z5]):=xf LB NU 12 x
def L9:EE:=LB.ad 12 ⟨_,_,F_4⟩
def QL:bB L9:=bR a0P NU (by kernel_rfl) fun x=>by unfold F_4;rfl
def N8:FH:=⟨[(6,(line [0,1,2,3,4,5,6,7,8,9,10,11],[]))],[(4,⟨[.slot 5 90 z1],0,⟨[.d (.row z1),.any,.any,.p 0 0,.any,.r 0,.d .bool,.d .int]++an 36 [],[some ([.d z1],90)],[some (90,3,z1)]⟩,[(.exit 0,⟨an 3 ([.p 0 0,.any,.r 0,.d .bool]++an 37 []),[some ([.d z1],90)],[some (90,3,z1)]⟩)]⟩)],[],[]⟩
@[irreducible] def F_11 (x:af [(.row z1),z1]):Option (af [(.row z1)]):=xf L9 N8 57 x
def Lw:EE:=L9.ad 57 ⟨_,_,F_11⟩
def Sp:bB Lw:=bR QL N8 (by kernel_rfl) fun x=>by unfold F_11;rfl
def PL:FH:=⟨[],[(3,⟨[],0,⟨[.d (.row z4),.any,.any,.d (.row z1),.d .int]++an 28 [],[],[]⟩,[(.exit 0,⟨an 3 ([.d (.row z1)]++an 29 []),[],[]⟩)]⟩),(6,⟨[],0,⟨[.d (.row z4),.any,.any,.d (.row z1),.d .int,.d .int]++an 27 [],[],[]⟩,[(.exit 2,⟨[.d (.row z4),.any,.any,.d (.row z1),.d .int]++an 28 [],[],[]⟩)]⟩)],[],[]⟩
@[irreducible] def F_15 (x:af [(.row z4)]):Option (af [(.row z1)]):=xf Lw PL 27 x
def Lh:EE:=Lw.ad 27 ⟨_,_,F_15⟩
def QN:bB Lh:=bR Sp PL (by kernel_rfl) fun x=>by unfold F_15;rfl
def PG:FH:=⟨[(6,(line [0,1,2,3,4,5,6,7,8],[]))],[(4,⟨[],0,⟨[.d (.row .int),.d (.row .int)]++an 3 ([.d .int]++an 20 []),[],[]⟩,[(.ret,⟨an 4 ([.d .bool]++an 21 []),[],[]⟩),(.exit 0,⟨an 26 [],[],[]⟩)]⟩)],[],[]⟩
@[irreducible] def Ms (x:af [(.row .int),(.row .int)]):Option (af [.bool]):=xf Lh PG 46 x
def M4:EE:=Lh.ad 46 ⟨_,_,Ms⟩
def UG:bB M4:=bR QN PG (by kernel_rfl) fun x=>by unfold Ms;rfl
def Oi:FH:=⟨[(6,(line [0,1,2,3,4,5,6,7,8],[]))],[(4,⟨[],0,⟨[.d (.row z0),.d (.row z0)]++an 3 ([.d .int]++an 20 []),[],[]⟩,[(.ret,⟨an 4 ([.d .bool]++an 21 []),[],[]⟩),(.exit 0,⟨an 26 [],[],[]⟩)]⟩)],[],[]⟩
@[irreducible] def MA (x:af [(.row z0),(.row z0)]):Option (af [.bool]):=xf M4 Oi 63 x
def JK:EE:=M4.ad 63 ⟨_,_,MA⟩
def RT:bB JK:=bR UG Oi (by kernel_rfl) fun x=>by unfold MA;rfl
def P0:FH:=⟨[],[],[],[]⟩
@[irreducible] def MB (x:af [z1,z1]):Option (af [.bool]):=xf JK P0 129 x
def LJ:EE:=JK.ad 129 ⟨_,_,MB⟩
def TS:bB LJ:=bR RT P0 (by kernel_rfl) fun x=>by unfold MB;rfl
def NC:FH:=⟨[(6,(line [0,1,2,3,4,5,6,7,8,9],[]))],[(4,⟨[],0,⟨[.d (.row z1),.d (.row z1)]++an 3 ([.d .int]++an 21 []),[],[]⟩,[(.ret,⟨an 4 ([.d .bool]++an 22 []),[],[]⟩),(.exit 0,⟨an 27 [],[],[]⟩)]⟩)],[],[]⟩
@[irreducible] def G0 (x:af [(.row z1),(.row z1)]):Option (af [.bool]):=xf LJ NC 89 x
def Lf:EE:=LJ.ad 89 ⟨_,_,G0⟩
def Vk:bB Lf:=bR TS NC (by kernel_rfl) fun x=>by unfold G0;rfl
def PY:FH:=⟨[],[],[],[]⟩
@[irreducible] def IF (x:af [z4,z4]):Option (af [.bool]):=xf Lf PY 47 x
def JL:EE:=Lf.ad 47 ⟨_,_,IF⟩
def UD:bB JL:=bR Vk PY (by kernel_rfl) fun x=>by unfold IF;rfl
def P9:FH:=⟨[(6,(line [0,1,2,3,4,5,6,7,8,9,10,11],[]))],[(4,⟨[],0,⟨[.any,.any,.p 0 0,.p 1 0,.any,.d .int]++an 48 [],[some ([.d z5],38),some ([.d z5],38)],[]⟩,[(.ret,⟨an 4 ([.d .bool]++an 49 []),[],[]⟩),(.exit 0,⟨an 54 [],[],[]⟩)]⟩)],[],[]⟩
@[irreducible] def MF (x:af [z5,z5]):Option (af [.bool]):=xf JL P9 20 x
def Lu:EE:=JL.ad 20 ⟨_,_,MF⟩
def SN:bB Lu:=bR UD P9 (by kernel_rfl) fun x=>by unfold MF;rfl
def OY:FH:=⟨[(5,(aK [0,1,2,3,4,5,6,7] [8,9,10],[]))],[(3,⟨[.cell 3 11 84 z4],0,⟨[.any,.p 0 0,.p 1 0,.p 2 0,.d .int]++an 25 [],[some ([.d z5],46),some ([.d z5],38),some ([.d .int,.d .int,.d .int,.d .int,.d .int,.d .int,.d .int,.d .int,.d (.row .int),.d .int,.d .int,.r 0],38)],[some (84,2,z4)]⟩,[(.exit 0,⟨[.any,.any,.p 0 0,.p 1 0]++an 26 [],[some ([.d z5],38),some ([.d .int,.d .int,.d .int,.d .int,.d .int,.d .int,.d .int,.d .int,.d (.row .int),.d .int,.d .int,.r 0],38)],[some (84,2,z4)]⟩)]⟩)],[],[]⟩
@[irreducible] def Mi (x:af [z5]):Option (af [z5]):=xf Lu OY 21 x
def KU:EE:=Lu.ad 21 ⟨_,_,Mi⟩
def QX:bB KU:=bR SN OY (by kernel_rfl) fun x=>by unfold Mi;rfl
def NA:FH:=⟨[],[],[],[]⟩
@[irreducible] def Mm (x:af [z1]):Option (af [.bool]):=xf KU NA 96 x
def KY:EE:=KU.ad 96 ⟨_,_,Mm⟩
def V7:bB KY:=bR QX NA (by kernel_rfl) fun x=>by unfold Mm;rfl
def Of:FH:=⟨[(7,(line [0,1,2,3,4,5,6,7,8,9,10,11,12,13,14,15,16,17,18,19,20,21,22,23,24,25,26,27,28,29,30,31,32],[]))],[(4,⟨[],0,⟨[.any,.any,.p 0 0,.any,.any,.d .int]++an 79 [],[some ([.d z1],90)],[]⟩,[(.ret,⟨an 4 ([.d .bool]++an 80 []),[],[]⟩),(.exit 0,⟨an 85 [],[],[]⟩)]⟩)],[],[]⟩
@[irreducible] def MH (x:af [z1,.int]):Option (af [.bool]):=xf KY Of 62 x
def M9:EE:=KY.ad 62 ⟨_,_,MH⟩
def Ru:bB M9:=bR V7 Of (by kernel_rfl) fun x=>by unfold MH;rfl
def On:FH:=⟨[(7,(line [0,1,2,3,4,5,6,7,8,9,10,11,12,13,15,14,16,17,18,19,20,21,22,23,24,25,26,27,28,29,30,31,32,33],[]))],[(4,⟨[],0,⟨[.any,.d .int,.any,.p 0 0,.any,.p 1 0,.any,.d .int]++an 55 [],[some ([.d z4],84),some ([.d z2],34)],[]⟩,[(.ret,⟨an 6 ([.d .bool]++an 56 []),[],[]⟩),(.exit 0,⟨an 63 [],[],[]⟩)]⟩)],[],[]⟩
@[irreducible] def Mt (x:af [z4,.int,z2]):Option (af [.bool]):=xf M9 On 56 x
def JX:EE:=M9.ad 56 ⟨_,_,Mt⟩
def S7:bB JX:=bR Ru On (by kernel_rfl) fun x=>by unfold Mt;rfl
def MV:FH:=⟨[],[],[],[]⟩
@[irreducible] def Fg (x:af [z2]):Option (af [.bool]):=xf JX MV 55 x
def L6:EE:=JX.ad 55 ⟨_,_,Fg⟩
def RC:bB L6:=bR S7 MV (by kernel_rfl) fun x=>by unfold Fg;rfl
def P5:FH:=⟨[(7,(line [0,1,2,3,4,5,6,7,8,9,10,11,12,13,14,15,16],[]))],[(5,⟨[],0,⟨[.any,.p 0 0,.any,.p 1 0,.d .int]++an 66 [],[some ([.d z5],38),some ([.d z2],34)],[]⟩,[(.ret,⟨[.any,.any,.d .bool]++an 68 [],[],[]⟩),(.exit 0,⟨an 71 [],[],[]⟩)]⟩)],[],[]⟩
@[irreducible] def NI (x:af [z5]):Option (af [.bool]):=xf L6 P5 26 x
def JN:EE:=L6.ad 26 ⟨_,_,NI⟩
def a0k:bB JN:=bR RC P5 (by kernel_rfl) fun x=>by unfold NI;rfl
def NT:FH:=⟨[],[],[],[]⟩
@[irreducible] def DV (x:af [z6,z6]):Option (af [.bool]):=xf JN NT 30 x
def LQ:EE:=JN.ad 30 ⟨_,_,DV⟩
def QW:bB LQ:=bR a0k NT (by kernel_rfl) fun x=>by unfold DV;rfl
def MR:FH:=⟨[],[],[],[]⟩
@[irreducible] def F_12 (x:af [(.row .int),.int]):Option (af [.bool]):=xf LQ MR 53 x
def LP:EE:=LQ.ad 53 ⟨_,_,F_12⟩
def Ux:bB LP:=bR QW MR (by kernel_rfl) fun x=>by unfold F_12;rfl
def OO:FH:=⟨[],[(3,⟨[.slot 5 3 .int],0,⟨[.d (.row .int),.d .int]++an 3 ([.r 0,.d .int]++an 21 []),[],[some (3,1,.int)]⟩,[(.exit 0,⟨an 5 ([.r 0]++an 22 []),[],[some (3,1,.int)]⟩)]⟩)],[],[]⟩
@[irreducible] def F_13 (x:af [(.row .int),.int]):Option (af [(.row .int)]):=xf LP OO 54 x
def KR:EE:=LP.ad 54 ⟨_,_,F_13⟩
def V1:bB KR:=bR Ux OO (by kernel_rfl) fun x=>by unfold F_13;rfl
def Q8:FH:=⟨[(12,(line [0,1,2,5,6,7,3,4,8,9],[]))],[],[],[]⟩
@[irreducible] def F_10 (x:af [z7,.int,z5]):Option (af [.bool]):=xf KR Q8 23 x
def Kf:EE:=KR.ad 23 ⟨_,_,F_10⟩
def UI:bB Kf:=bR V1 Q8 (by kernel_rfl) fun x=>by unfold F_10;rfl
def h_18:FH:=⟨[],[],[],[]⟩
@[irreducible] def Zf (x:af [.int]):Option (af [.int]):=xf Kf h_18 212 x
def a00:EE:=Kf.ad 212 ⟨_,_,Zf⟩
def a0R:bB a00:=bR UI h_18 (by kernel_rfl) fun x=>by unfold Zf;rfl
def h_12:FH:=⟨[],[],[],[]⟩
@[irreducible] def YT (x:af [z0]):Option (af [.int]):=xf a00 h_12 180 x
def s_P:bI:=⟨[z0],[.int],YT⟩
def Z3:EE:=a00.ad 180 s_P
def ZR:bB Z3:=bR a0R h_12 (by kernel_rfl) fun x=>by unfold YT;rfl
def h_13:FH:=⟨[],[(3,⟨[],0,⟨[.any,.p 0 0,.any,.d .int,.d .int]++an 16 [],[some ([.d z1],90)],[]⟩,[(.exit 0,⟨an 3 ([.d .int]++an 17 []),[],[]⟩)]⟩)],[],[]⟩
@[irreducible] def YV (x:af [z1]):Option (af [.int]):=xf Z3 h_13 147 x
def s_Q:bI:=⟨[z1],[.int],YV⟩
def Z4:EE:=Z3.ad 147 s_Q
def ZP:bB Z4:=bR ZR h_13 (by kernel_rfl) fun x=>by unfold YV;rfl
def h_14:FH:=⟨[],[(3,⟨[],0,⟨[.any,.p 0 0,.any,.d .int,.d .int]++an 16 [],[some ([.d z4],84)],[]⟩,[(.exit 0,⟨an 3 ([.d .int]++an 17 []),[],[]⟩)]⟩)],[],[]⟩
@[irreducible] def Z0 (x:af [z4]):Option (af [.int]):=xf Z4 h_14 107 x
def s_R:bI:=⟨[z4],[.int],Z0⟩
def Z5:EE:=Z4.ad 107 s_R
def ZV:bB Z5:=bR ZP h_14 (by kernel_rfl) fun x=>by unfold Z0;rfl
def h_15:FH:=⟨[],[],[],[]⟩
@[irreducible] def YQ (x:af [(.row z1)]):Option (af [.int]):=xf Z5 h_15 61 x
def s_S:bI:=⟨[(.row z1)],[.int],YQ⟩
def Z1:EE:=Z5.ad 61 s_S
def ZN:bB Z1:=bR ZV h_15 (by kernel_rfl) fun x=>by unfold YQ;rfl
def h_16:FH:=⟨[(1,(line [0,1,2,3,4,6,7,5,8,9],[])),(6,(line [0,1,2,3,4,5,6,7,8,9,10,11,12,13,14,15,16,17,18,19,20,21,22,23,24,25,26,27,28,29,30,31,32,33,34,35,36,37,38,39,40,41,42],[]))],[(4,⟨[],0,⟨[.any,.d (.row z1),.p 0 0,.any,.any,.d .int]++an 59 [],[some ([.d z2],34)],[]⟩,[(.ret,⟨an 4 ([.d .bool]++an 60 []),[],[]⟩),(.exit 0,⟨an 65 [],[],[]⟩)]⟩)],[],[]⟩
@[irreducible] def YM (x:af [z2,(.row z1)]):Option (af [.bool]):=xf Z1 h_16 29 x
def s_T:bI:=⟨[z2,(.row z1)],[.bool],YM⟩
def Yx:EE:=Z1.ad 29 s_T
def ZT:bB Yx:=bR ZN h_16 (by kernel_rfl) fun x=>by unfold YM;rfl
def h_19:FH:=⟨[],[(3,⟨[],0,⟨an 3 ([.d .int]++an 3 ([.d (.row z1),.d .int,.d .int]++an 9 [])),[],[]⟩,[(.exit 0,⟨an 3 ([.d .int]++an 15 []),[],[]⟩)]⟩)],[],[]⟩
@[irreducible] def a0i (x:af [z4]):Option (af [.int]):=xf Yx h_19 138 x
def a0x:EE:=Yx.ad 138 ⟨_,_,a0i⟩
def a1d:bB a0x:=bR ZT h_19 (by kernel_rfl) fun x=>by unfold a0i;rfl
def a0S:FH:=⟨[],[],[],[]⟩
@[irreducible] def a0v (x:af [(.row z1)]):Option (af [.int]):=xf a0x a0S 105 x
def a0F:EE:=a0x.ad 105 ⟨_,_,a0v⟩
def a1c:bB a0F:=bR a1d a0S (by kernel_rfl) fun x=>by unfold a0v;rfl
def a0N:FH:=⟨[(4,(line [0,1,2,3,4,5,7,8,6,9,10,11],[]))],[],[],[]⟩
@[irreducible] def a03 (x:af [z2,(.row z1)]):Option (af [.bool]):=xf a0F a0N 59 x
def s_U:bI:=⟨[z2,(.row z1)],[.bool],a03⟩
def a0K:EE:=a0F.ad 59 s_U
def a15:bB a0K:=bR a1c a0N (by kernel_rfl) fun x=>by unfold a03;rfl
def a0T:FH:=⟨[(7,(aK [0,1,2] [3,4],[]))],[(3,⟨[],0,⟨an 3 ([.p 0 0,.any,.p 1 0,.any,.r 0]++an 6 ([.d .int,.d .int]++an 15 [])),[some ([.d z6],48),some ([.d z6],48)],[some (90,3,z1)]⟩,[(.exit 0,⟨an 3 ([.p 0 0,.any,.p 1 0,.any,.r 0]++an 23 []),[some ([.d z6],48),some ([.d z6],48)],[some (90,3,z1)]⟩)]⟩)],[],[]⟩
@[irreducible] def a0b (x:af [Xw,z6]):Option (af [(.row z1),z6,(.row z9)]):=xf a0K a0T 106 x
def a0C:EE:=a0K.ad 106 ⟨_,_,a0b⟩
def a16:bB a0C:=bR a15 a0T (by kernel_rfl) fun x=>by unfold a0b;rfl
def a0V:FH:=⟨[],[],[],[]⟩
@[irreducible] def a0h (x:af [Xw,.int]):Option (af [(.row z1),z6,(.row z9)]):=xf a0C a0V 60 x
def s_V:bI:=⟨[Xw,.int],[(.row z1),z6,(.row z9)],a0h⟩
def a0I:EE:=a0C.ad 60 s_V
def a1f:bB a0I:=bR a16 a0V (by kernel_rfl) fun x=>by unfold a0h;rfl
def Ow:FH:=⟨[],[],[],[]⟩
@[irreducible] def Je (x:af [z7]):Option (af [z7]):=Tr Tryz.prog { EN with turns:=true } a0I Ow 121 [z7] [z7] x
def Yg:bI:=⟨[z7],[z7],Je⟩
def Qp:EE:=a0I.ad 121 Yg
def UB:Qp.gM.nq gI.env Tryz.prog txn.bA { EN with turns:=true }:=EE.xT (EE.Jm a1f) rfl hB (by kernel_rfl) (H:=Ow) (congrArg (bI.mk _ _) (funext fun x=>by unfold Je;rfl))
def SE:bB Qp:=EE.OL (E':=EN) UB
def Q3:FH:=⟨[],[],[],[]⟩
@[irreducible] def F_8 (x:af [z7,z5]):Option (af [z7]):=xf Qp Q3 122 x
def KB:EE:=Qp.ad 122 ⟨_,_,F_8⟩
def Rc:bB KB:=bR SE Q3 (by kernel_rfl) fun x=>by unfold F_8;rfl
def OH:FH:=⟨[(2,(line [0,2,1,3,4,5],[2,3])),(3,(p9 [0,1,3,4,5,6,7,8,9] (.fork 2 (aK [10] [11,12,13]) 10 (aK [2] [11,12,13])),[])),(4,(line [0,1,3,2,4,5,6],[2,3]))],[],[(4,[0])],[(3,⟨an 3 ([.p 0 0,.any,.p 1 0,.p 2 0,.p 3 0]++an 27 []),[some ([.d .int,.d .int,.d .int,.d .int,.r 0,.d (.row z4),.d .int,.d .int,.d .int,.d .int,.d .int,.d .int,.d .str,.d (.row z0),.d .int],50),some ([.d z5],46),some ([.d z7],50),some ([.d z5],46)],[some (3,1,.int)]⟩)]⟩
@[irreducible] def MG (x:af [z7,.int,z5]):Option (af [z7,z5,.int]):=xf KB OH 76 x
def W5:bI:=⟨[z7,.int,z5],[z7,z5,.int],MG⟩
def KF:EE:=KB.ad 76 W5
def V9:bB KF:=bR Rc OH (by kernel_rfl) fun x=>by unfold MG;rfl
def O1:FH:=⟨[(1,(p9 [0,1,3,4,5,6,7,8] (.fork 2 (aK [9] [10,11,12]) 9 (aK [2] [10,11,12])),[])),(2,(line [0,1,3,2,4,5,6],[2,3]))],[],[(2,[0])],[(1,⟨an 3 ([.p 0 0,.any,.p 1 0,.p 2 0,.p 3 0]++an 17 []),[some ([.d .int,.d .int,.d .int,.d .int,.d (.row .int),.r 0,.d .int,.d .int,.d .int,.d .int,.d .int,.d .int,.d .str,.d (.row z0),.d .int],50),some ([.d z5],46),some ([.d z7],50),some ([.d z5],46)],[some (112,2,z4)]⟩)]⟩
@[irreducible] def Mh (x:af [z7,.int,z5]):Option (af [z7,z5,.int]):=xf KF O1 77 x
def Vt:bI:=⟨[z7,.int,z5],[z7,z5,.int],Mh⟩
def JP:EE:=KF.ad 77 Vt
def UO:bB JP:=bR V9 O1 (by kernel_rfl) fun x=>by unfold Mh;rfl
def NH:FH:=⟨[(1,(line [0,1,2,3,4,5,6,7,8,9,10,11,12,13,14,15,16,17,18,19,20,21,22,23,24,25,26,27,28,29],[]))],[],[],[]⟩
@[irreducible] def Lp (x:af [z7,z5]):Option (af [.bool]):=xf JP NH 123 x
def Kb:EE:=JP.ad 123 ⟨_,_,Lp⟩
def Vj:bB Kb:=bR UO NH (by kernel_rfl) fun x=>by unfold Lp;rfl
def PO:FH:=⟨[(1,(aK [0,2,3,1,4,5] [6],[]))],[],[],[]⟩
@[irreducible] def J6 (x:af [z7,(.row z4)]):Option (af [z6]):=xf Kb PO 124 x
def Kr:EE:=Kb.ad 124 ⟨_,_,J6⟩
def R2:bB Kr:=bR Vj PO (by kernel_rfl) fun x=>by unfold J6;rfl
def Oc:FH:=⟨[(5,(line [0,2,3,1,4,5,6],[2,3])),(9,(line [0,1,2,3,4,5],[2,3]))],[],[],[]⟩
@[irreducible] def MI (x:af [z7,.int,z5]):Option (af [z7,z5,.int]):=xf Kr Oc 78 x
def We:bI:=⟨[z7,.int,z5],[z7,z5,.int],MI⟩
def M5:EE:=Kr.ad 78 We
def U3:bB M5:=bR R2 Oc (by kernel_rfl) fun x=>by unfold MI;rfl
def NN:FH:=⟨[(2,(line [0,1,3,2,4,5,6],[2,3]))],[],[],[]⟩
@[irreducible] def Eh (x:af [z7,.int,z5]):Option (af [z7,z5,.int]):=xf M5 NN 79 x
def Wp:bI:=⟨[z7,.int,z5],[z7,z5,.int],Eh⟩
def Ma:EE:=M5.ad 79 Wp
def SV:bB Ma:=bR U3 NN (by kernel_rfl) fun x=>by unfold Eh;rfl
def Q5:FH:=⟨[(2,(line [0,1,2,3,4],[2,3]))],[],[],[]⟩
@[irreducible] def EJ (x:af [z7,.int,z5]):Option (af [z7,z5,.int]):=xf Ma Q5 80 x
def VG:bI:=⟨[z7,.int,z5],[z7,z5,.int],EJ⟩
def KD:EE:=Ma.ad 80 VG
def RQ:bB KD:=bR SV Q5 (by kernel_rfl) fun x=>by unfold EJ;rfl
def MM:FH:=⟨[(2,(line [0,1,3,2,4,5,6],[2,3]))],[],[],[]⟩
@[irreducible] def Fu (x:af [z7,.int,z5]):Option (af [z7,z5,.int]):=xf KD MM 81 x
def VC:bI:=⟨[z7,.int,z5],[z7,z5,.int],Fu⟩
def Ox:EE:=KD.ad 81 VC
def QI:bB Ox:=bR RQ MM (by kernel_rfl) fun x=>by unfold Fu;rfl
def a0U:FH:=⟨[(1,(aK [0,1,2,3,4,5,6,7,8,9,10,11,12,13] [14,15],[]))],[],[],[]⟩
@[irreducible] def a0j (x:af [Xw]):Option (af [(.row z1),z6,(.row z9)]):=xf Ox a0U 103 x
def s_Y:bI:=⟨[Xw],[(.row z1),z6,(.row z9)],a0j⟩
def a0M:EE:=Ox.ad 103 s_Y
def a1a:bB a0M:=bR QI a0U (by kernel_rfl) fun x=>by unfold a0j;rfl
abbrev tA:EE:=a0M
def IY:tA.gM.nq gI.env Tryz.prog txn.bA EN:=a1a
end Go.Proofs.YtdbjakibneeeiaaGreatDoor.Ex
namespace Go.Proofs.YtdbjakibneeeiaaGreatDoor.Ex
open Go.RowKit Sx
abbrev Y3:Type:=(Int×(Int×Unit))
abbrev Y8:Type:=(Int×(Int×(Int×(Int×(ByteArray×Unit)))))
abbrev Y0:Type:=(Int×Y8)
abbrev Y1:Type:=(Int×(Int×((List Y0)×Unit)))
abbrev Y4:Type:=((List Y1)×(Int×Unit))
abbrev Y6:Type:=(Int×(Y0×((List Y0)×(Int×Unit))))
abbrev Y7:Type:=(Int×(Int×(Int×(Int×((List Int)×((List Y4)×(Y6×Unit)))))))
abbrev Y9:Type:=(Int×(Y0×(Int×Unit)))
abbrev WS:Type:=(Bool×(Int×(Y1×((List Y9)×(Y6×Unit)))))
abbrev Ep:Type:=(Y8×(Int×(Int×(WS×(Y6×(Bool×Unit))))))
abbrev Gy:Type:=(Int×Y3)
abbrev Va:Type:=(Int×(Int×Gy))
abbrev Y2:Type:=(Int×(Int×(Int×Va)))
abbrev Y5:Type:=(Y2×((List Int)×(Y3×((List Y4)×Unit))))
abbrev Y15:Type:=(Y2×(Y4×(Y8×Unit)))
abbrev xu:Type:=Y0
abbrev Mf:Type:=Y2
abbrev P_2:Type:=Y5
abbrev T8:Type:=Y6
abbrev cU:Type:=Y7
abbrev P_7:Type:=Y8
abbrev dc:Type:=Y1
abbrev cQ:Type:=Y4
abbrev T0:Type:=(Y7×(Y5×Unit))
abbrev T1:Type:=((Bool×Unit)×(Unit×Unit))
abbrev T2:Type:=((Y5×Unit)×((Y7×Unit)×((Y5×Unit)×Unit)))
abbrev T3:Type:=((Unit×(Unit×Unit)) ⊕ Empty)
abbrev T4:Type:=((Y5×Unit)×Unit)
abbrev T5:Type:=(Int×(Int×(Int×(Int×((List Int)×(Int×(Int×(Int×(Int×(Int×(Int×(ByteArray×((List Y0)×(Int×Unit))))))))))))))
abbrev T6:Type:=(((List Y1)×Unit)×(((Y5×Unit)×((Y7×Unit)×((Y6×Unit)×Unit)))×Unit))
abbrev T7:Type:=((List Int)×Unit)
abbrev T9:Type:=((List Y4)×Unit)
abbrev Ta:Type:=(Y7×(Y5×(Int×Unit)))
abbrev Tb:Type:=(Int×(Y3×(Y5×Unit)))
abbrev Tc:Type:=((Int×Unit)×(((Y3×Unit)×T2)×T7))
abbrev Td:Type:=(((Int×Unit)×(Unit×Unit)) ⊕ ((T7×(Unit×Unit)) ⊕ Empty))
abbrev Te:Type:=(Y4×(((Y5×Unit)×((Y7×Unit)×((Y5×Unit)×((Y6×Unit)×Unit))))×Unit))
abbrev Tf:Type:=((List Int)×(Int×Unit))
abbrev Tg:Type:=(Int×(Y5×Unit))
abbrev Th:Type:=(Unit×(Unit×Unit))
abbrev Ti:Type:=((List Y1)×Unit)
abbrev Tj:Type:=((List Y0)×(Int×Unit))
abbrev Tk:Type:=((Unit×(T4×Unit)) ⊕ Empty)
abbrev Tl:Type:=(Y3×(T4×Unit))
abbrev Tm:Type:=(((Y4×Unit)×((Y2×Unit)×Unit))×Unit)
abbrev Tn:Type:=((List Int)×(Int×(Int×Unit)))
abbrev To:Type:=((List Int)×(Int×(Value×(Int×Unit))))
abbrev Tq:Type:=(((Y7×Unit)×T2)×Unit)
abbrev Ts:Type:=((Y7×Unit)×Unit)
abbrev Tt:Type:=((Int×Unit)×(Unit×Unit))
abbrev Tu:Type:=((List Y1)×(Y6×((List Y9)×Unit)))
abbrev Tw:Type:=(FuncId×bI)
abbrev Tx:Type:=(Y3×(((Y3×Unit)×T2)×T7))
abbrev Ty:Type:=(Unit×((List Y4)×Ti))
abbrev Tz:Type:=(Unit×(Unit×T9))
abbrev TA:Type:=(((Y1×Unit)×Unit)×Unit)
def XS (x:(Y0×Unit)):OI x =
 some ((decide ((((ByteArray.size x.1.2.2.2.2.2.1):Nat):Int)≤(500:Int))),()):=by kernel_rfl
def WM (x:Tj):Mu x =
 xb (b6 (S:=(((List Y0)×Y3)×(Unit×Unit))) (R:=(T1 ⊕ ((Tj×(Unit×Unit)) ⊕ Empty))) (fun (s0:(((List Y0)×Y3)×(Unit×Unit)))=>az (decide (s0.1.2.2.1<(((List.length s0.1.1):Nat):Int))) (gd (di s0.1.2.2.1 (List.length s0.1.1)) (gd (decide ((Int.toNat s0.1.2.2.1)<(List.length s0.1.1))) (xb (OI ((List.getD s0.1.1 (Int.toNat s0.1.2.2.1) ((0:Int),((0:Int),((0:Int),((0:Int),((0:Int),(ByteArray.empty,()))))))),())) (fun (y1:(Bool×Unit))=>az (!y1.1) (some (.inr (.inl ((false,()),((),()))))) (gd (dx (s0.1.2.2.1+(1:Int))) (some (.inl ((s0.1.1,(s0.1.2.1,((s0.1.2.2.1+(1:Int)),()))),((),()))))))))) (some (.inr (.inr (.inl ((s0.1.1,(s0.1.2.1,())),((),()))))))) bn ((x.1,(x.2.1,((0:Int),()))),((),()))) (fun (y2:(T1 ⊕ ((Tj×(Unit×Unit)) ⊕ Empty)))=>xs y2 (fun (y3:T1)=>some y3.1) (fun (y4:((Tj×(Unit×Unit)) ⊕ Empty))=>xs y4 (fun (y5:(Tj×(Unit×Unit)))=>some ((decide ((((List.length y5.1.1):Nat):Int)≤y5.1.2.1)),())) (fun (y6:Empty)=>xe y6))):=by kernel_rfl
def WZ (x:((List Y1)×(Int×Unit))):Mg x =
 xb (b6 (S:=(((List Y1)×Y3)×(Unit×Unit))) (R:=(T1 ⊕ ((Y4×(Unit×Unit)) ⊕ Empty))) (fun (s0:(((List Y1)×Y3)×(Unit×Unit)))=>az (decide (s0.1.2.2.1<(((List.length s0.1.1):Nat):Int))) (gd (di s0.1.2.2.1 (List.length s0.1.1)) (gd (decide ((Int.toNat s0.1.2.2.1)<(List.length s0.1.1))) (xb (Mu ((List.getD s0.1.1 (Int.toNat s0.1.2.2.1) ((0:Int),((0:Int),([],())))).2.2.1,((20:Int),()))) (fun (y1:(Bool×Unit))=>az (!y1.1) (some (.inr (.inl ((false,()),((),()))))) (gd (dx (s0.1.2.2.1+(1:Int))) (some (.inl ((s0.1.1,(s0.1.2.1,((s0.1.2.2.1+(1:Int)),()))),((),()))))))))) (some (.inr (.inr (.inl ((s0.1.1,(s0.1.2.1,())),((),()))))))) bn ((x.1,(x.2.1,((0:Int),()))),((),()))) (fun (y2:(T1 ⊕ ((Y4×(Unit×Unit)) ⊕ Empty)))=>xs y2 (fun (y3:T1)=>some y3.1) (fun (y4:((Y4×(Unit×Unit)) ⊕ Empty))=>xs y4 (fun (y5:(Y4×(Unit×Unit)))=>some ((decide ((((List.length y5.1.1):Nat):Int)≤y5.1.2.1)),())) (fun (y6:Empty)=>xe y6))):=by kernel_rfl
def Yd (x:(Y5×Unit)):Me x =
 xb (b6 (S:=((Int×Unit)×(T4×Unit))) (R:=(T1 ⊕ Tk)) (fun (s0:((Int×Unit)×(T4×Unit)))=>az (decide (s0.1.1<(((List.length s0.2.1.1.1.2.2.2.1):Nat):Int))) (gd (di s0.1.1 (List.length s0.2.1.1.1.2.2.2.1)) (gd (decide ((Int.toNat s0.1.1)<(List.length s0.2.1.1.1.2.2.2.1))) (xb (Mg ((List.getD s0.2.1.1.1.2.2.2.1 (Int.toNat s0.1.1) ([],((0:Int),()))).1,((20:Int),()))) (fun (y1:(Bool×Unit))=>az (!y1.1) (some (.inr (.inl ((false,()),((),()))))) (gd (dx (s0.1.1+(1:Int))) (some (.inl (((s0.1.1+(1:Int)),()),s0.2)))))))) (some (.inr (.inr (.inl ((),s0.2)))))) bn (((0:Int),()),((x,()),()))) (fun (y2:(T1 ⊕ Tk))=>xs y2 (fun (y3:T1)=>some y3.1) (fun (y4:Tk)=>xs y4 (fun (y5:(Unit×(T4×Unit)))=>az ((decide ((((List.length y5.2.1.1.1.2.2.2.1):Nat):Int)≤(10:Int)))==true) (some ((decide ((((List.length y5.2.1.1.1.2.1):Nat):Int)≤(10:Int))),())) (some (false,()))) (fun (y6:Empty)=>xe y6))):=by kernel_rfl
def WT (x:T9):Mz x =
 xb (b6 (S:=(((List Y4)×(Int×Unit))×(Unit×T9))) (R:=(Tz ⊕ Empty)) (fun (s0:(((List Y4)×(Int×Unit))×(Unit×T9)))=>az (decide (s0.1.2.1<(((List.length s0.1.1):Nat):Int))) (gd (di s0.1.2.1 (List.length s0.1.1)) (gd (decide ((Int.toNat s0.1.2.1)<(List.length s0.1.1))) (gd ((Nat.ble ((List.length s0.2.2.1)+(List.length ((List.getD s0.1.1 (Int.toNat s0.1.2.1) ([],((0:Int),())))::[]))) 9223372036854775807)&&(Nat.ble (((List.length s0.2.2.1)+(List.length ((List.getD s0.1.1 (Int.toNat s0.1.2.1) ([],((0:Int),())))::[])))*(32:Nat)) (140737488355328:Nat))) (gd (dx (s0.1.2.1+(1:Int))) (some (.inl ((s0.1.1,((s0.1.2.1+(1:Int)),())),((),((s0.2.2.1++((List.getD s0.1.1 (Int.toNat s0.1.2.1) ([],((0:Int),())))::[])),()))))))))) (some (.inr (.inl ((),((),s0.2.2)))))) bn ((x.1,((0:Int),())),((),([],())))) (fun (y1:(Tz ⊕ Empty))=>xs y1 (fun (y2:Tz)=>some y2.2.2) (fun (y3:Empty)=>xe y3)):=by kernel_rfl
def XY (x:(Y5×Unit)):F_4 x =
 xb (Mz x.1.2.2.2) (fun (y0:T9)=>some ((x.1.1,(x.1.2.1,(x.1.2.2.1,y0))),())):=by kernel_rfl
def Xk (x:T9):Mq x =
 xb (uM x.1) (fun (y0:(List Y4))=>xb (b6 (S:=(Y3×(Unit×T9))) (R:=(Tz ⊕ Empty)) (fun (s1:(Y3×(Unit×T9)))=>az (decide (s1.1.2.1<s1.1.1)) (gd (di s1.1.2.1 (List.length s1.2.2.1)) (gd (decide ((Int.toNat s1.1.2.1)<(List.length s1.2.2.1))) (xb (uM (List.getD s1.2.2.1 (Int.toNat s1.1.2.1) ([],((0:Int),()))).1) (fun (y2:(List Y1))=>xb (b6 (S:=(Va×Ty)) (R:=((Gy×Ty) ⊕ Empty)) (fun (s3:(Va×Ty))=>az (decide (s3.1.2.2.2.2.1<s3.1.2.2.2.1)) (gd (di s3.1.2.2.2.2.1 (List.length s3.2.2.2.1)) (gd (decide ((Int.toNat s3.1.2.2.2.2.1)<(List.length s3.2.2.2.1))) (xb (uM (List.getD s3.2.2.2.1 (Int.toNat s3.1.2.2.2.2.1) ((0:Int),((0:Int),([],())))).2.2.1) (fun (y4:(List Y0))=>gd (di s3.1.2.2.2.2.1 (List.length s3.2.2.2.1)) (gd (decide ((Int.toNat s3.1.2.2.2.2.1)<(List.length s3.2.2.2.1))) (gd (dx (s3.1.2.2.2.2.1+(1:Int))) (some (.inl ((s3.1.1,(s3.1.2.1,(s3.1.2.2.1,(s3.1.2.2.2.1,((s3.1.2.2.2.2.1+(1:Int)),()))))),((),(s3.2.2.1,((List.set s3.2.2.2.1 (Int.toNat s3.1.2.2.2.2.1) ((List.getD s3.2.2.2.1 (Int.toNat s3.1.2.2.2.2.1) ((0:Int),((0:Int),([],())))).1,((List.getD s3.2.2.2.1 (Int.toNat s3.1.2.2.2.2.1) ((0:Int),((0:Int),([],())))).2.1,(y4,())))),())))))))))))) (some (.inr (.inl ((s3.1.1,(s3.1.2.1,(s3.1.2.2.1,()))),((),s3.2.2)))))) bn ((s1.1.2.1,(s1.1.1,(s1.1.2.1,((((List.length y2):Nat):Int),((0:Int),()))))),((),(s1.2.2.1,(y2,()))))) (fun (y5:((Gy×Ty) ⊕ Empty))=>xs y5 (fun (y6:(Gy×Ty))=>gd (di y6.1.1 (List.length y6.2.2.1)) (gd (decide ((Int.toNat y6.1.1)<(List.length y6.2.2.1))) (gd (dx (y6.1.2.2.1+(1:Int))) (some (.inl ((y6.1.2.1,((y6.1.2.2.1+(1:Int)),())),((),((List.set y6.2.2.1 (Int.toNat y6.1.1) (y6.2.2.2.1,(List.getD y6.2.2.1 (Int.toNat y6.1.1) ([],((0:Int),()))).2)),())))))))) (fun (y7:Empty)=>xe y7)))))) (some (.inr (.inl ((),((),s1.2.2)))))) bn (((((List.length y0):Nat):Int),((0:Int),())),((),(y0,())))) (fun (y8:(Tz ⊕ Empty))=>xs y8 (fun (y9:Tz)=>some y9.2.2) (fun (y10:Empty)=>xe y10))):=by kernel_rfl
def XL (x:(Y7×Unit)):Ml x =
 xb (uM x.1.2.2.2.2.1) (fun (y0:(List Int))=>xb (Mq (x.1.2.2.2.2.2.1,())) (fun (y1:T9)=>xb (uM x.1.2.2.2.2.2.2.1.2.2.1) (fun (y2:(List Y0))=>some ((x.1.1,(x.1.2.1,(x.1.2.2.1,(x.1.2.2.2.1,(y0,(y1.1,((x.1.2.2.2.2.2.2.1.1,(x.1.2.2.2.2.2.2.1.2.1,(y2,x.1.2.2.2.2.2.2.1.2.2.2))),()))))))),())))):=by kernel_rfl
def Ym (x:(Y5×Unit)):Mc x =
 xb (uM x.1.2.1) (fun (y0:(List Int))=>xb (Mq x.1.2.2.2) (fun (y1:T9)=>some ((x.1.1,(y0,(x.1.2.2.1,y1))),()))):=by kernel_rfl
def Xu (x:Tf):Ku x =
 az ((decide ((0:Int)≤x.2.1))==true) (some ((decide (x.2.1<(((List.length x.1):Nat):Int))),())) (some (false,())):=by kernel_rfl
def Xx (x:Tf):J7 x =
 xb (Ku x) (fun (y0:(Bool×Unit))=>az (y0.1==true) (gd (di x.2.1 (List.length x.1)) (gd (decide ((Int.toNat x.2.1)<(List.length x.1))) (some (((List.getD x.1 (Int.toNat x.2.1) (0:Int))==(0:Int)),())))) (some (false,()))):=by kernel_rfl
def Ya (x:(Int×Unit)):Jx x =
 some ((decide (x.1≥(1:Int))),()):=by kernel_rfl
def XT (x:Tn):Ld x =
 xb (Jx x.2.2) (fun (y0:(Bool×Unit))=>az (y0.1==true) (gd (di x.2.1 (List.length x.1)) (gd (decide ((Int.toNat x.2.1)<(List.length x.1))) (some (((List.getD x.1 (Int.toNat x.2.1) (0:Int))==x.2.2.1),())))) (some (false,()))):=by kernel_rfl
def Xo (x:Tn):FQ x =
 xb (Ld x) (fun (y0:(Bool×Unit))=>some ((!y0.1),())):=by kernel_rfl
def Yh (x:Tn):Md x =
 xb (uM x.1) (fun (y0:(List Int))=>gd (di x.2.1 (List.length y0)) (gd (decide ((Int.toNat x.2.1)<(List.length y0))) (some ((List.set y0 (Int.toNat x.2.1) x.2.2.1),())))):=by kernel_rfl
def Yi (x:Tn):Ew x =
 xb (Ku (x.1,(x.2.1,()))) (fun (y0:(Bool×Unit))=>az ((!y0.1)==false) (xb (Jx x.2.2) (fun (y1:(Bool×Unit))=>az (!y1.1) (xb (uM x.1) (fun (y2:(List Int))=>some (y2,((1:Int),())))) (xb (J7 (x.1,(x.2.1,()))) (fun (y3:(Bool×Unit))=>az (!y3.1) (xb (uM x.1) (fun (y4:(List Int))=>some (y4,((6:Int),())))) (xb (Md x) (fun (y5:T7)=>some (y5.1,((0:Int),())))))))) (xb (uM x.1) (fun (y6:(List Int))=>some (y6,((1:Int),()))))):=by kernel_rfl
def XO (x:Tn):EK x =
 xb (Ku (x.1,(x.2.1,()))) (fun (y0:(Bool×Unit))=>az ((!y0.1)==false) (xb (Jx x.2.2) (fun (y1:(Bool×Unit))=>az (!y1.1) (xb (uM x.1) (fun (y2:(List Int))=>some (y2,((1:Int),())))) (xb (Ld x) (fun (y3:(Bool×Unit))=>az (!y3.1) (xb (uM x.1) (fun (y4:(List Int))=>some (y4,((7:Int),())))) (xb (Md (x.1,(x.2.1,((0:Int),())))) (fun (y5:T7)=>some (y5.1,((0:Int),())))))))) (xb (uM x.1) (fun (y6:(List Int))=>some (y6,((1:Int),()))))):=by kernel_rfl
def Xn (x:(Y5×Unit)):LD x =
 xb (Nf (x.1.1,())) (fun (y0:(Bool×Unit))=>az ((!y0.1)==false) (az (((((List.length x.1.2.1):Nat):Int) != x.1.1.1)==false) (az ((((List.length x.1.2.2.2.1):Nat):Int) != x.1.1.1) (some (false,())) (xb (b6 (S:=Tl) (R:=(T1 ⊕ Tk)) (fun (s1:Tl)=>az (decide (s1.1.2.1<s1.1.1)) (gd (di s1.1.2.1 (List.length s1.2.1.1.1.2.1)) (gd (decide ((Int.toNat s1.1.2.1)<(List.length s1.2.1.1.1.2.1))) (az ((decide ((List.getD s1.2.1.1.1.2.1 (Int.toNat s1.1.2.1) (0:Int))<(0:Int)))==false) (gd (di s1.1.2.1 (List.length s1.2.1.1.1.2.2.2.1)) (gd (decide ((Int.toNat s1.1.2.1)<(List.length s1.2.1.1.1.2.2.2.1))) (xb (MK ((List.getD s1.2.1.1.1.2.2.2.1 (Int.toNat s1.1.2.1) ([],((0:Int),()))),(s1.1.2.1,(s1.2.1.1.1.1,())))) (fun (y2:(Bool×Unit))=>az (!y2.1) (some (.inr (.inl ((false,()),((),()))))) (gd (dx (s1.1.2.1+(1:Int))) (some (.inl ((s1.1.1,((s1.1.2.1+(1:Int)),())),s1.2)))))))) (some (.inr (.inl ((false,()),((),())))))))) (some (.inr (.inr (.inl ((),s1.2)))))) bn ((x.1.1.1,((0:Int),())),((x,()),()))) (fun (y3:(T1 ⊕ Tk))=>xs y3 (fun (y4:T1)=>some y4.1) (fun (y5:Tk)=>xs y5 (fun (y6:(Unit×(T4×Unit)))=>az ((y6.2.1.1.1.2.2.1.2.1==y6.2.1.1.1.1.2.2.1)==true) (az ((decide ((0:Int)≤y6.2.1.1.1.2.2.1.1))==true) (some ((decide (y6.2.1.1.1.2.2.1.1≤y6.2.1.1.1.1.2.2.1)),())) (some (false,()))) (some (false,()))) (fun (y7:Empty)=>xe y7))))) (some (false,()))) (some (false,()))):=by kernel_rfl
def Yc (x:(Y4×(Int×(Y2×Unit)))):MK x =
 az ((decide (x.1.2.1<(0:Int)))==false) (az (decide (x.1.2.1>(1099511627776:Int))) (some (false,())) (xb (b6 (S:=((Int×((List Y1)×Y3))×Tm)) (R:=(T1 ⊕ T3)) (fun (s0:((Int×((List Y1)×Y3))×Tm))=>az (decide (s0.1.2.2.2.1<s0.1.2.2.1)) (gd (di s0.1.2.2.2.1 (List.length s0.1.2.1)) (gd (decide ((Int.toNat s0.1.2.2.2.1)<(List.length s0.1.2.1))) (az ((decide (s0.1.2.2.2.1>(0:Int)))==true) (gd (dx (s0.1.2.2.2.1 - (1:Int))) (gd (di (s0.1.2.2.2.1 - (1:Int)) (List.length s0.2.1.1.1.1)) (gd (decide ((Int.toNat (s0.1.2.2.2.1 - (1:Int)))<(List.length s0.2.1.1.1.1))) (az (decide ((List.getD s0.1.2.1 (Int.toNat s0.1.2.2.2.1) ((0:Int),((0:Int),([],())))).1≤(List.getD s0.2.1.1.1.1 (Int.toNat (s0.1.2.2.2.1 - (1:Int))) ((0:Int),((0:Int),([],())))).1)) (some (.inr (.inl ((false,()),((),()))))) (xb (ID ((List.getD s0.1.2.1 (Int.toNat s0.1.2.2.2.1) ((0:Int),((0:Int),([],())))),(s0.2.1.2.1.1.2.2.2.1,()))) (fun (y1:(Bool×Unit))=>az ((!y1.1)==false) (xb (Jd ((List.getD s0.1.2.1 (Int.toNat s0.1.2.2.2.1) ((0:Int),((0:Int),([],())))),())) (fun (y2:(Bool×Unit))=>az (y2.1==false) (xb (Jn ((List.getD s0.1.2.1 (Int.toNat s0.1.2.2.2.1) ((0:Int),((0:Int),([],())))).1,(s0.2.1.2.1.1.1,()))) (fun (y3:(Int×Unit))=>az (y3.1 != s0.1.1) (some (.inr (.inl ((false,()),((),()))))) (gd (dx (s0.1.2.2.2.1+(1:Int))) (some (.inl ((s0.1.1,(s0.1.2.1,(s0.1.2.2.1,((s0.1.2.2.2.1+(1:Int)),())))),s0.2)))))) (some (.inr (.inl ((false,()),((),()))))))) (some (.inr (.inl ((false,()),((),()))))))))))) (xb (ID ((List.getD s0.1.2.1 (Int.toNat s0.1.2.2.2.1) ((0:Int),((0:Int),([],())))),(s0.2.1.2.1.1.2.2.2.1,()))) (fun (y4:(Bool×Unit))=>az ((!y4.1)==false) (xb (Jd ((List.getD s0.1.2.1 (Int.toNat s0.1.2.2.2.1) ((0:Int),((0:Int),([],())))),())) (fun (y5:(Bool×Unit))=>az (y5.1==false) (xb (Jn ((List.getD s0.1.2.1 (Int.toNat s0.1.2.2.2.1) ((0:Int),((0:Int),([],())))).1,(s0.2.1.2.1.1.1,()))) (fun (y6:(Int×Unit))=>az (y6.1 != s0.1.1) (some (.inr (.inl ((false,()),((),()))))) (gd (dx (s0.1.2.2.2.1+(1:Int))) (some (.inl ((s0.1.1,(s0.1.2.1,(s0.1.2.2.1,((s0.1.2.2.2.1+(1:Int)),())))),s0.2)))))) (some (.inr (.inl ((false,()),((),()))))))) (some (.inr (.inl ((false,()),((),())))))))))) (some (.inr (.inr (.inl ((),((),()))))))) bn ((x.2.1,(x.1.1,((((List.length x.1.1):Nat):Int),((0:Int),())))),(((x.1,()),(x.2.2,())),()))) (fun (y7:(T1 ⊕ T3))=>xs y7 (fun (y8:T1)=>some y8.1) (fun (y9:T3)=>xs y9 (fun (y10:Th)=>some (true,())) (fun (y11:Empty)=>xe y11))))) (some (false,())):=by kernel_rfl
def XX (x:(Y1×Unit)):Jd x =
 az ((decide (x.1.2.1≤(0:Int)))==true) (some (((((List.length x.1.2.2.1):Nat):Int)==(0:Int)),())) (some (false,())):=by kernel_rfl
def Yk (x:(Y1×(Int×Unit))):ID x =
 xb (LN (x.1.1,((0:Int),((255:Int),())))) (fun (y0:(Bool×Unit))=>az ((!y0.1)==false) (xb (LN (x.1.2.1,((0:Int),((4294967295:Int),())))) (fun (y1:(Bool×Unit))=>az ((!y1.1)==false) (xb (LN (x.2.1,((1:Int),((16:Int),())))) (fun (y2:(Bool×Unit))=>az (!y2.1) (some (false,())) (az ((decide ((((List.length x.1.2.2.1):Nat):Int)≤x.2.1))==true) (xb (NY (x.1,())) (fun (y3:(Bool×Unit))=>some y3)) (some (false,()))))) (some (false,())))) (some (false,()))):=by kernel_rfl
def XD (x:(Int×(Int×(Int×Unit)))):LN x =
 az ((decide (x.2.1≤x.1))==true) (some ((decide (x.1≤x.2.2.1)),())) (some (false,())):=by kernel_rfl
def Xb (x:(Y1×Unit)):NY x =
 xb (b6 (S:=((Int×((List Y0)×Y3))×TA)) (R:=(T1 ⊕ T3)) (fun (s0:((Int×((List Y0)×Y3))×TA))=>az (decide (s0.1.2.2.2.1<s0.1.2.2.1)) (gd (di s0.1.2.2.2.1 (List.length s0.1.2.1)) (gd (decide ((Int.toNat s0.1.2.2.2.1)<(List.length s0.1.2.1))) (xb (KK ((List.getD s0.1.2.1 (Int.toNat s0.1.2.2.2.1) ((0:Int),((0:Int),((0:Int),((0:Int),((0:Int),(ByteArray.empty,()))))))),())) (fun (y1:(Bool×Unit))=>az ((!y1.1)==false) (az (((List.getD s0.1.2.1 (Int.toNat s0.1.2.2.2.1) ((0:Int),((0:Int),((0:Int),((0:Int),((0:Int),(ByteArray.empty,()))))))).1 != s0.2.1.1.1.1)==false) (az (decide ((List.getD s0.1.2.1 (Int.toNat s0.1.2.2.2.1) ((0:Int),((0:Int),((0:Int),((0:Int),((0:Int),(ByteArray.empty,()))))))).2.1<s0.1.1)) (some (.inr (.inl ((false,()),((),()))))) (gd (dx ((List.getD s0.1.2.1 (Int.toNat s0.1.2.2.2.1) ((0:Int),((0:Int),((0:Int),((0:Int),((0:Int),(ByteArray.empty,()))))))).2.1+(1:Int))) (gd (dx (s0.1.2.2.2.1+(1:Int))) (some (.inl ((((List.getD s0.1.2.1 (Int.toNat s0.1.2.2.2.1) ((0:Int),((0:Int),((0:Int),((0:Int),((0:Int),(ByteArray.empty,()))))))).2.1+(1:Int)),(s0.1.2.1,(s0.1.2.2.1,((s0.1.2.2.2.1+(1:Int)),())))),s0.2)))))) (some (.inr (.inl ((false,()),((),())))))) (some (.inr (.inl ((false,()),((),()))))))))) (some (.inr (.inr (.inl ((),((),()))))))) bn ((x.1.2.1,(x.1.2.2.1,((((List.length x.1.2.2.1):Nat):Int),((0:Int),())))),((x,()),()))) (fun (y2:(T1 ⊕ T3))=>xs y2 (fun (y3:T1)=>some y3.1) (fun (y4:T3)=>xs y4 (fun (y5:Th)=>some (true,())) (fun (y6:Empty)=>xe y6))):=by kernel_rfl
def Xf (x:(Y2×Unit)):Nf x =
 xb (F_7 (x.1.1,((1:Int),((8:Int),())))) (fun (y0:(Bool×Unit))=>az (y0.1==true) (xb (F_7 (x.1.2.2.1,((1:Int),((1000:Int),())))) (fun (y1:(Bool×Unit))=>az (y1.1==true) (xb (F_7 (x.1.2.1,((0:Int),(x.1.2.2.1,())))) (fun (y2:(Bool×Unit))=>az (y2.1==true) (xb (F_7 (x.1.2.2.2.1,((1:Int),((16:Int),())))) (fun (y3:(Bool×Unit))=>az (y3.1==true) (xb (F_7 (x.1.2.2.2.2.1,((0:Int),((100:Int),())))) (fun (y4:(Bool×Unit))=>az (y4.1==true) (xb (F_7 (x.1.2.2.2.2.2.1,((1:Int),((16:Int),())))) (fun (y5:(Bool×Unit))=>az (y5.1==true) (xb (F_7 (x.1.2.2.2.2.2.2.1,((1:Int),((4:Int),())))) (fun (y6:(Bool×Unit))=>az (y6.1==true) (xb (F_7 (x.1.2.2.2.2.2.2.2.1,((1:Int),((8:Int),())))) (fun (y7:(Bool×Unit))=>some y7)) (some (false,())))) (some (false,())))) (some (false,())))) (some (false,())))) (some (false,())))) (some (false,())))) (some (false,()))):=by kernel_rfl
def Ys (x:(Int×(Int×(Int×Unit)))):F_7 x =
 az ((decide (x.2.1≤x.1))==true) (some ((decide (x.1≤x.2.2.1)),())) (some (false,())):=by kernel_rfl
def XU (x:Tf):MN x =
 xb (b6 (S:=(((List Int)×Gy)×(Unit×Unit))) (R:=(Tt ⊕ T3)) (fun (s0:(((List Int)×Gy)×(Unit×Unit)))=>az (decide (s0.1.2.2.2.1<s0.1.2.2.1)) (gd (di s0.1.2.2.2.1 (List.length s0.1.1)) (gd (decide ((Int.toNat s0.1.2.2.2.1)<(List.length s0.1.1))) (az (s0.1.2.1==(List.getD s0.1.1 (Int.toNat s0.1.2.2.2.1) (0:Int))) (some (.inr (.inl (s0.1.2.2.2,((),()))))) (gd (dx (s0.1.2.2.2.1+(1:Int))) (some (.inl ((s0.1.1,(s0.1.2.1,(s0.1.2.2.1,((s0.1.2.2.2.1+(1:Int)),())))),((),())))))))) (some (.inr (.inr (.inl ((),((),()))))))) bn ((x.1,(x.2.1,((((List.length x.1):Nat):Int),((0:Int),())))),((),()))) (fun (y1:(Tt ⊕ T3))=>xs y1 (fun (y2:Tt)=>some y2.1) (fun (y3:T3)=>xs y3 (fun (y4:Th)=>some ((-1:Int),())) (fun (y5:Empty)=>xe y5))):=by kernel_rfl
def XV (x:Tf):DT x =
 xb (MN x) (fun (y0:(Int×Unit))=>some ((decide (y0.1≥(0:Int))),())):=by kernel_rfl
def X7 (x:Tf):Gl x =
 xb (H7 (x.1,((0:Int),(x.2.1,((Value.func (.func 95) #[] #[]),()))))) (fun (y0:(Int×Unit))=>xb (b6 (S:=(((List Int)×Y3)×(Unit×T7))) (R:=((Unit×(Unit×T7)) ⊕ Empty)) (fun (s1:(((List Int)×Y3)×(Unit×T7)))=>az (decide (s1.1.2.2.1<(((List.length s1.1.1):Nat):Int))) (gd ((Nat.ble ((List.length s1.2.2.1)+(List.length (s1.1.2.2.1::[]))) 9223372036854775807)&&(Nat.ble (((List.length s1.2.2.1)+(List.length (s1.1.2.2.1::[])))*(8:Nat)) (140737488355328:Nat))) (gd (dx (s1.1.2.2.1+(1:Int))) (xb (H7 (s1.1.1,((s1.1.2.2.1+(1:Int)),(s1.1.2.1,((Value.func (.func 95) #[] #[]),()))))) (fun (y2:(Int×Unit))=>some (.inl ((s1.1.1,(s1.1.2.1,y2)),((),((s1.2.2.1++(s1.1.2.2.1::[])),())))))))) (some (.inr (.inl ((),((),s1.2.2)))))) bn ((x.1,(x.2.1,y0)),((),([],())))) (fun (y3:((Unit×(Unit×T7)) ⊕ Empty))=>xs y3 (fun (y4:(Unit×(Unit×T7)))=>some y4.2.2) (fun (y5:Empty)=>xe y5))):=by kernel_rfl
def Xq (x:Tf):EV x =
 xb (H7 (x.1,((0:Int),(x.2.1,((Value.func (.func 93) #[] #[]),()))))) (fun (y0:(Int×Unit))=>some y0):=by kernel_rfl
def XA (x:(Y7×Tg)):F_9 x =
 az ((decide (x.2.1<(1:Int)))==false) (xb (LD x.2.2) (fun (y0:(Bool×Unit))=>az (!y0.1) (some (false,())) (az (x.1.2.1==(0:Int)) (az ((decide ((0:Int)≤x.1.2.2.1))==true) (some ((decide (x.1.2.2.1<(((List.length x.2.2.1.2.2.2.1):Nat):Int))),())) (some (false,()))) (az (x.1.2.1==(1:Int)) (az ((decide ((0:Int)≤x.1.2.2.1))==true) (some ((decide (x.1.2.2.1<(((List.length x.2.2.1.2.2.2.1):Nat):Int))),())) (some (false,()))) (az (x.1.2.1==(2:Int)) (az ((decide ((0:Int)≤x.1.2.2.1))==true) (some ((decide (x.1.2.2.1<(((List.length x.2.2.1.2.2.2.1):Nat):Int))),())) (some (false,()))) (az (x.1.2.1==(3:Int)) (xb (J7 (x.2.2.1.2.1,(x.1.2.2.1,()))) (fun (y1:(Bool×Unit))=>some y1)) (az (x.1.2.1==(4:Int)) (xb (EV (x.2.2.1.2.1,(x.2.1,()))) (fun (y2:(Int×Unit))=>some ((y2.1==(((List.length x.2.2.1.2.1):Nat):Int)),()))) (az (x.1.2.1==(5:Int)) (xb (Gl (x.2.2.1.2.1,(x.2.1,()))) (fun (y3:T7)=>xb (DT (y3.1,(x.1.2.2.1,()))) (fun (y4:(Bool×Unit))=>some y4))) (some (false,())))))))))) (some (false,())):=by kernel_rfl
def WU (x:(Int×Unit)):F_3 x =
 some ((x.1,((0:Int),((0:Int),((0:Int),([],([],(((0:Int),(((0:Int),((0:Int),((0:Int),((0:Int),((0:Int),(ByteArray.empty,())))))),([],((0:Int),())))),()))))))),()):=by kernel_rfl
def WJ (x:T0):F_8 x =
 gd (dx (x.1.2.2.1+(1:Int))) (az ((x.1.2.2.1+(1:Int))==x.2.1.1.1) (gd (dx (x.1.2.1+(1:Int))) (some ((x.1.1,((x.1.2.1+(1:Int)),((0:Int),x.1.2.2.2))),()))) (some ((x.1.1,(x.1.2.1,((x.1.2.2.1+(1:Int)),x.1.2.2.2))),()))):=by kernel_rfl
def Xh (x:(Y7×Unit)):Je x =
 az (decide ((IntKind.wrap IntKind.i64 (x.1.2.2.2.1+(1:Int)))≥(2:Int))) (some ((x.1.1,((3:Int),((0:Int),((IntKind.wrap IntKind.i64 (x.1.2.2.2.1+(1:Int))),([],([],x.1.2.2.2.2.2.2)))))),())) (some ((x.1.1,((0:Int),((0:Int),((IntKind.wrap IntKind.i64 (x.1.2.2.2.1+(1:Int))),([],([],x.1.2.2.2.2.2.2)))))),())):=by kernel_rfl
def XP (x:(Y7×Tg)):MG x =
 xb (J7 (x.2.2.1.2.1,(x.1.2.2.1,()))) (fun (y0:(Bool×Unit))=>az (!y0.1) (xb (Je (x.1,())) (fun (y1:(Y7×Unit))=>some (y1.1,(x.2.2.1,((0:Int),()))))) (xb (gd (di x.1.2.2.1 (List.length x.2.2.1.2.2.2.1)) (gd (decide ((Int.toNat x.1.2.2.1)<(List.length x.2.2.1.2.2.2.1))) (@both ((af []×(bq [[.int,.int,.int,.int,(.row z4),.int,.int,.int,.int,.int,.int,.str,(.row z0),.int],[z5],[z7],[z5]]×af [(.row .int)]))) inferInstance (xb (uM x.1.2.2.2.2.1) (fun (y2:(List Int))=>gd ((Nat.ble ((List.length y2)+(List.length ((List.getD x.2.2.1.2.2.2.1 (Int.toNat x.1.2.2.1) ([],((0:Int),()))).2.1::[]))) 9223372036854775807)&&(Nat.ble (((List.length y2)+(List.length ((List.getD x.2.2.1.2.2.2.1 (Int.toNat x.1.2.2.1) ([],((0:Int),()))).2.1::[])))*(8:Nat)) (140737488355328:Nat))) (some ((),(((x.1.1,(x.1.2.1,(x.1.2.2.1,(x.1.2.2.2.1,(x.1.2.2.2.2.2.1,(x.1.2.2.2.2.2.2.1.1,(x.1.2.2.2.2.2.2.1.2.1.1,(x.1.2.2.2.2.2.2.1.2.1.2.1,(x.1.2.2.2.2.2.2.1.2.1.2.2.1,(x.1.2.2.2.2.2.2.1.2.1.2.2.2.1,(x.1.2.2.2.2.2.2.1.2.1.2.2.2.2.1,(x.1.2.2.2.2.2.2.1.2.1.2.2.2.2.2.1,x.1.2.2.2.2.2.2.1.2.2)))))))))))),(x.2.2,((((0:Int),((0:Int),((0:Int),((0:Int),([],([],(((0:Int),(((0:Int),((0:Int),((0:Int),((0:Int),((0:Int),(ByteArray.empty,())))))),([],((0:Int),())))),()))))))),()),(((((0:Int),((0:Int),((0:Int),((0:Int),((0:Int),((0:Int),((0:Int),((0:Int),())))))))),([],(((0:Int),((0:Int),())),([],())))),()),())))),((y2++((List.getD x.2.2.1.2.2.2.1 (Int.toNat x.1.2.2.1) ([],((0:Int),()))).2.1::[])),())))))) (xb (uM x.1.2.2.2.2.1) (fun (y3:(List Int))=>gd ((Nat.ble ((List.length y3)+(List.length ((List.getD x.2.2.1.2.2.2.1 (Int.toNat x.1.2.2.1) ([],((0:Int),()))).2.1::[]))) 9223372036854775807)&&(Nat.ble (((List.length y3)+(List.length ((List.getD x.2.2.1.2.2.2.1 (Int.toNat x.1.2.2.1) ([],((0:Int),()))).2.1::[])))*(8:Nat)) (140737488355328:Nat))) (some ((),(((x.1.1,(x.1.2.1,(x.1.2.2.1,(x.1.2.2.2.1,(x.1.2.2.2.2.2.1,(x.1.2.2.2.2.2.2.1.1,(x.1.2.2.2.2.2.2.1.2.1.1,(x.1.2.2.2.2.2.2.1.2.1.2.1,(x.1.2.2.2.2.2.2.1.2.1.2.2.1,(x.1.2.2.2.2.2.2.1.2.1.2.2.2.1,(x.1.2.2.2.2.2.2.1.2.1.2.2.2.2.1,(x.1.2.2.2.2.2.2.1.2.1.2.2.2.2.2.1,x.1.2.2.2.2.2.2.1.2.2)))))))))))),(x.2.2,((((0:Int),((0:Int),((0:Int),((0:Int),([],([],(((0:Int),(((0:Int),((0:Int),((0:Int),((0:Int),((0:Int),(ByteArray.empty,())))))),([],((0:Int),())))),()))))))),()),(((((0:Int),((0:Int),((0:Int),((0:Int),((0:Int),((0:Int),((0:Int),((0:Int),())))))))),([],(((0:Int),((0:Int),())),([],())))),()),())))),((y3++((List.getD x.2.2.1.2.2.2.1 (Int.toNat x.1.2.2.1) ([],((0:Int),()))).2.1::[])),()))))))))) (fun (y4:(Unit×(((Int×(Int×(Int×(Int×((List Y4)×(Int×(Int×(Int×(Int×(Int×(Int×(ByteArray×Tj))))))))))))×T2)×T7)))=>xb (F_8 ((y4.2.1.1.1,(y4.2.1.1.2.1,(y4.2.1.1.2.2.1,(y4.2.1.1.2.2.2.1,(y4.2.2.1,(y4.2.1.1.2.2.2.2.1,((y4.2.1.1.2.2.2.2.2.1,((y4.2.1.1.2.2.2.2.2.2.1,(y4.2.1.1.2.2.2.2.2.2.2.1,(y4.2.1.1.2.2.2.2.2.2.2.2.1,(y4.2.1.1.2.2.2.2.2.2.2.2.2.1,(y4.2.1.1.2.2.2.2.2.2.2.2.2.2.1,(y4.2.1.1.2.2.2.2.2.2.2.2.2.2.2.1,())))))),y4.2.1.1.2.2.2.2.2.2.2.2.2.2.2.2)),()))))))),y4.2.1.2.1)) (fun (y5:(Y7×Unit))=>some (y5.1,(y4.2.1.2.1.1,((0:Int),()))))))):=by kernel_rfl
def WN (x:(Y7×Tg)):Mh x =
 xb (gd (di x.1.2.2.1 (List.length x.2.2.1.2.2.2.1)) (gd (decide ((Int.toNat x.1.2.2.1)<(List.length x.2.2.1.2.2.2.1))) (@both ((af []×(bq [[.int,.int,.int,.int,(.row .int),.int,.int,.int,.int,.int,.int,.str,(.row z0),.int],[z5],[z7],[z5]]×af [(.row z4)]))) inferInstance (xb (uM x.1.2.2.2.2.2.1) (fun (y0:(List Y4))=>gd ((Nat.ble ((List.length y0)+(List.length ((List.getD x.2.2.1.2.2.2.1 (Int.toNat x.1.2.2.1) ([],((0:Int),())))::[]))) 9223372036854775807)&&(Nat.ble (((List.length y0)+(List.length ((List.getD x.2.2.1.2.2.2.1 (Int.toNat x.1.2.2.1) ([],((0:Int),())))::[])))*(32:Nat)) (140737488355328:Nat))) (some ((),(((x.1.1,(x.1.2.1,(x.1.2.2.1,(x.1.2.2.2.1,(x.1.2.2.2.2.1,(x.1.2.2.2.2.2.2.1.1,(x.1.2.2.2.2.2.2.1.2.1.1,(x.1.2.2.2.2.2.2.1.2.1.2.1,(x.1.2.2.2.2.2.2.1.2.1.2.2.1,(x.1.2.2.2.2.2.2.1.2.1.2.2.2.1,(x.1.2.2.2.2.2.2.1.2.1.2.2.2.2.1,(x.1.2.2.2.2.2.2.1.2.1.2.2.2.2.2.1,x.1.2.2.2.2.2.2.1.2.2)))))))))))),(x.2.2,((((0:Int),((0:Int),((0:Int),((0:Int),([],([],(((0:Int),(((0:Int),((0:Int),((0:Int),((0:Int),((0:Int),(ByteArray.empty,())))))),([],((0:Int),())))),()))))))),()),(((((0:Int),((0:Int),((0:Int),((0:Int),((0:Int),((0:Int),((0:Int),((0:Int),())))))))),([],(((0:Int),((0:Int),())),([],())))),()),())))),((y0++((List.getD x.2.2.1.2.2.2.1 (Int.toNat x.1.2.2.1) ([],((0:Int),())))::[])),())))))) (xb (uM x.1.2.2.2.2.2.1) (fun (y1:(List Y4))=>gd ((Nat.ble ((List.length y1)+(List.length ((List.getD x.2.2.1.2.2.2.1 (Int.toNat x.1.2.2.1) ([],((0:Int),())))::[]))) 9223372036854775807)&&(Nat.ble (((List.length y1)+(List.length ((List.getD x.2.2.1.2.2.2.1 (Int.toNat x.1.2.2.1) ([],((0:Int),())))::[])))*(32:Nat)) (140737488355328:Nat))) (some ((),(((x.1.1,(x.1.2.1,(x.1.2.2.1,(x.1.2.2.2.1,(x.1.2.2.2.2.1,(x.1.2.2.2.2.2.2.1.1,(x.1.2.2.2.2.2.2.1.2.1.1,(x.1.2.2.2.2.2.2.1.2.1.2.1,(x.1.2.2.2.2.2.2.1.2.1.2.2.1,(x.1.2.2.2.2.2.2.1.2.1.2.2.2.1,(x.1.2.2.2.2.2.2.1.2.1.2.2.2.2.1,(x.1.2.2.2.2.2.2.1.2.1.2.2.2.2.2.1,x.1.2.2.2.2.2.2.1.2.2)))))))))))),(x.2.2,((((0:Int),((0:Int),((0:Int),((0:Int),([],([],(((0:Int),(((0:Int),((0:Int),((0:Int),((0:Int),((0:Int),(ByteArray.empty,())))))),([],((0:Int),())))),()))))))),()),(((((0:Int),((0:Int),((0:Int),((0:Int),((0:Int),((0:Int),((0:Int),((0:Int),())))))))),([],(((0:Int),((0:Int),())),([],())))),()),())))),((y1++((List.getD x.2.2.1.2.2.2.1 (Int.toNat x.1.2.2.1) ([],((0:Int),())))::[])),()))))))))) (fun (y2:(Unit×((T5×T2)×T9)))=>xb (F_8 ((y2.2.1.1.1,(y2.2.1.1.2.1,(y2.2.1.1.2.2.1,(y2.2.1.1.2.2.2.1,(y2.2.1.1.2.2.2.2.1,(y2.2.2.1,((y2.2.1.1.2.2.2.2.2.1,((y2.2.1.1.2.2.2.2.2.2.1,(y2.2.1.1.2.2.2.2.2.2.2.1,(y2.2.1.1.2.2.2.2.2.2.2.2.1,(y2.2.1.1.2.2.2.2.2.2.2.2.2.1,(y2.2.1.1.2.2.2.2.2.2.2.2.2.2.1,(y2.2.1.1.2.2.2.2.2.2.2.2.2.2.2.1,())))))),y2.2.1.1.2.2.2.2.2.2.2.2.2.2.2.2)),()))))))),y2.2.1.2.1)) (fun (y3:(Y7×Unit))=>some (y3.1,(y2.2.1.2.1.1,((0:Int),()))))):=by kernel_rfl
def WY (x:T0):Lp x =
 xb (J7 (x.2.1.2.1,(x.1.2.2.1,()))) (fun (y0:(Bool×Unit))=>az (y0.1==true) (az ((decide (x.1.2.2.1<(((List.length x.1.2.2.2.2.1):Nat):Int)))==true) (gd (di x.1.2.2.1 (List.length x.1.2.2.2.2.1)) (gd (decide ((Int.toNat x.1.2.2.1)<(List.length x.1.2.2.2.2.1))) (gd (di x.1.2.2.1 (List.length x.2.1.2.2.2.1)) (gd (decide ((Int.toNat x.1.2.2.1)<(List.length x.2.1.2.2.2.1))) (some (((List.getD x.1.2.2.2.2.1 (Int.toNat x.1.2.2.1) (0:Int))==(List.getD x.2.1.2.2.2.1 (Int.toNat x.1.2.2.1) ([],((0:Int),()))).2.1),())))))) (some (false,()))) (some (false,()))):=by kernel_rfl
def Xg (x:(Y7×T9)):J6 x =
 xb (My x.2) (fun (y0:Ti)=>xb (J8 (y0.1,(x.1.1,()))) (fun (y1:((List Y0)×Unit))=>some (((0:Int),(((0:Int),((0:Int),((0:Int),((0:Int),((0:Int),(ByteArray.empty,())))))),(y1.1,((0:Int),())))),()))):=by kernel_rfl
def Xy (x:(Y7×Tg)):MI x =
 az (x.1.2.2.1==(0:Int)) (xb (Lp (x.1,x.2.2)) (fun (y0:(Bool×Unit))=>az (!y0.1) (xb (Je (x.1,())) (fun (y1:(Y7×Unit))=>some (y1.1,(x.2.2.1,((1:Int),()))))) (xb (F_8 (x.1,x.2.2)) (fun (y2:(Y7×Unit))=>az (y2.1.2.1 != (2:Int)) (xb (J6 (y2.1,(y2.1.2.2.2.2.2.1,()))) (fun (y3:(Y6×Unit))=>some ((y2.1.1,((6:Int),(y2.1.2.2.1,(y2.1.2.2.2.1,(y2.1.2.2.2.2.1,(y2.1.2.2.2.2.2.1,y3)))))),(x.2.2.1,((1:Int),()))))) (some (y2.1,(x.2.2.1,((1:Int),())))))))) (xb (Lp (x.1,x.2.2)) (fun (y4:(Bool×Unit))=>az (!y4.1) (xb (Je (x.1,())) (fun (y5:(Y7×Unit))=>some (y5.1,(x.2.2.1,((0:Int),()))))) (xb (F_8 (x.1,x.2.2)) (fun (y6:(Y7×Unit))=>az (y6.1.2.1 != (2:Int)) (xb (J6 (y6.1,(y6.1.2.2.2.2.2.1,()))) (fun (y7:(Y6×Unit))=>some ((y6.1.1,((6:Int),(y6.1.2.2.1,(y6.1.2.2.2.1,(y6.1.2.2.2.2.1,(y6.1.2.2.2.2.2.1,y7)))))),(x.2.2.1,((0:Int),()))))) (some (y6.1,(x.2.2.1,((0:Int),())))))))):=by kernel_rfl
def XB (x:(Y7×Tg)):Eh x =
 xb (Ew (x.2.2.1.2.1,(x.1.2.2.1,(x.2.1,())))) (fun (y0:Tf)=>xb (F_8 (x.1,((x.2.2.1.1,(y0.1,x.2.2.1.2.2)),()))) (fun (y1:(Y7×Unit))=>some (y1.1,((x.2.2.1.1,(y0.1,x.2.2.1.2.2)),((0:Int),()))))):=by kernel_rfl
def X6 (x:(Y7×Tg)):EJ x =
 xb (J6 (x.1,x.2.2.1.2.2.2)) (fun (y0:(Y6×Unit))=>some ((x.1.1,((5:Int),((0:Int),(x.1.2.2.2.1,(x.1.2.2.2.2.1,(x.1.2.2.2.2.2.1,y0)))))),(x.2.2.1,((2:Int),())))):=by kernel_rfl
def Xa (x:(Y7×Tg)):Fu x =
 xb (EK (x.2.2.1.2.1,(x.1.2.2.1,(x.2.1,())))) (fun (y0:Tf)=>xb (F_8 (x.1,((x.2.2.1.1,(y0.1,x.2.2.1.2.2)),()))) (fun (y1:(Y7×Unit))=>some (y1.1,((x.2.2.1.1,(y0.1,x.2.2.1.2.2)),((0:Int),()))))):=by kernel_rfl
def Yb (x:(Y6×(Y6×Unit))):DV x =
 az ((x.1.1==x.2.1.1)==true) (az (((x.1.2.1.1==x.2.1.2.1.1)&&((x.1.2.1.2.1==x.2.1.2.1.2.1)&&((x.1.2.1.2.2.1==x.2.1.2.1.2.2.1)&&((x.1.2.1.2.2.2.1==x.2.1.2.1.2.2.2.1)&&((x.1.2.1.2.2.2.2.1==x.2.1.2.1.2.2.2.2.1)&&((Eg x.1.2.1.2.2.2.2.2.1 x.2.1.2.1.2.2.2.2.2.1)&&true))))))==true) (az ((x.1.2.2.2.1==x.2.1.2.2.2.1)==true) (xb (MA (x.1.2.2.1,(x.2.1.2.2.1,()))) (fun (y0:(Bool×Unit))=>some y0)) (some (false,()))) (some (false,()))) (some (false,())):=by kernel_rfl
def Yp (x:((List Y0)×((List Y0)×Unit))):MA x =
 az ((((List.length x.1):Nat):Int) != (((List.length x.2.1):Nat):Int)) (some (false,())) (xb (b6 (S:=(((List Y0)×Tj)×(Unit×Unit))) (R:=(T1 ⊕ T3)) (fun (s0:(((List Y0)×Tj)×(Unit×Unit)))=>az (decide (s0.1.2.2.1<(((List.length s0.1.1):Nat):Int))) (gd (di s0.1.2.2.1 (List.length s0.1.1)) (gd (decide ((Int.toNat s0.1.2.2.1)<(List.length s0.1.1))) (gd (di s0.1.2.2.1 (List.length s0.1.2.1)) (gd (decide ((Int.toNat s0.1.2.2.1)<(List.length s0.1.2.1))) (az (!(((List.getD s0.1.1 (Int.toNat s0.1.2.2.1) ((0:Int),((0:Int),((0:Int),((0:Int),((0:Int),(ByteArray.empty,()))))))).1==(List.getD s0.1.2.1 (Int.toNat s0.1.2.2.1) ((0:Int),((0:Int),((0:Int),((0:Int),((0:Int),(ByteArray.empty,()))))))).1)&&(((List.getD s0.1.1 (Int.toNat s0.1.2.2.1) ((0:Int),((0:Int),((0:Int),((0:Int),((0:Int),(ByteArray.empty,()))))))).2.1==(List.getD s0.1.2.1 (Int.toNat s0.1.2.2.1) ((0:Int),((0:Int),((0:Int),((0:Int),((0:Int),(ByteArray.empty,()))))))).2.1)&&(((List.getD s0.1.1 (Int.toNat s0.1.2.2.1) ((0:Int),((0:Int),((0:Int),((0:Int),((0:Int),(ByteArray.empty,()))))))).2.2.1==(List.getD s0.1.2.1 (Int.toNat s0.1.2.2.1) ((0:Int),((0:Int),((0:Int),((0:Int),((0:Int),(ByteArray.empty,()))))))).2.2.1)&&(((List.getD s0.1.1 (Int.toNat s0.1.2.2.1) ((0:Int),((0:Int),((0:Int),((0:Int),((0:Int),(ByteArray.empty,()))))))).2.2.2.1==(List.getD s0.1.2.1 (Int.toNat s0.1.2.2.1) ((0:Int),((0:Int),((0:Int),((0:Int),((0:Int),(ByteArray.empty,()))))))).2.2.2.1)&&(((List.getD s0.1.1 (Int.toNat s0.1.2.2.1) ((0:Int),((0:Int),((0:Int),((0:Int),((0:Int),(ByteArray.empty,()))))))).2.2.2.2.1==(List.getD s0.1.2.1 (Int.toNat s0.1.2.2.1) ((0:Int),((0:Int),((0:Int),((0:Int),((0:Int),(ByteArray.empty,()))))))).2.2.2.2.1)&&((Eg (List.getD s0.1.1 (Int.toNat s0.1.2.2.1) ((0:Int),((0:Int),((0:Int),((0:Int),((0:Int),(ByteArray.empty,()))))))).2.2.2.2.2.1 (List.getD s0.1.2.1 (Int.toNat s0.1.2.2.1) ((0:Int),((0:Int),((0:Int),((0:Int),((0:Int),(ByteArray.empty,()))))))).2.2.2.2.2.1)&&true))))))) (some (.inr (.inl ((false,()),((),()))))) (gd (dx (s0.1.2.2.1+(1:Int))) (some (.inl ((s0.1.1,(s0.1.2.1,((s0.1.2.2.1+(1:Int)),()))),((),())))))))))) (some (.inr (.inr (.inl ((),((),()))))))) bn ((x.1,(x.2.1,((0:Int),()))),((),()))) (fun (y1:(T1 ⊕ T3))=>xs y1 (fun (y2:T1)=>some y2.1) (fun (y3:T3)=>xs y3 (fun (y4:Th)=>some (true,())) (fun (y5:Empty)=>xe y5)))):=by kernel_rfl
end Go.Proofs.YtdbjakibneeeiaaGreatDoor.Ex
namespace Go.Proofs.YtdbjakibneeeiaaGreatDoor.Ex
open Go.RowKit Sx Em queue
abbrev DP:List Sh:=[Mx,.int,Mn]
abbrev Q4:List Sh:=[Mx,Mn,.int]
def cG (ph:Int) (y:af DP):Option (af Q4):=
 bif ph==0 then MG y else bif ph==1 then Mh y else bif ph==2 then MI y else bif ph==3 then Eh y else bif ph==4 then EJ y else bif ph==5 then Fu y else none
def eP (v:Den Mx) (s:Den Mn) (k:Int):Option (af Q4):=xb (Ml (v,())) fun c=>xb (Mc (s,())) fun d=>some (c.1,d.1,k,())
@[irreducible] def F_2 (x:af DP):Option (af Q4):=
 xb (F_9 x) fun a=>az a.1 (xb (cG x.1.2.1 x) fun r=>eP r.1 r.2.1 r.2.2.1) (eP x.1 x.2.2.1 0)
def Qz:bI:=⟨DP,Q4,F_2⟩
def fh {α R:Type} {m:Option α} {k:α→Option R} {r:R}:xb m k=some r↔∃y,m=some y∧k y=some r:=by
 cases m with
 | none=>exact ⟨fun h=>(by cases h),fun ⟨y,h,_⟩=>(by cases h)⟩
 | some y=>exact ⟨fun h=>⟨y,rfl,h⟩,fun ⟨z,h,k⟩=>by cases h;exact k⟩
def wO {ps rs:List Sh} {F:af ps→Option (af rs)} {x:af ps} {r:af rs} (h:F x=some r):(bI.fG ⟨ps,rs,F⟩).pre x∧(bI.fG ⟨ps,rs,F⟩).F x=r:=by
 constructor
 ·show (F x).isSome=true
  rw [h];rfl
 ·show (F x).getD _=r
  rw [h];rfl
def vM {f:FuncId} {S:bI} (h:lk tA.gM.sm f=some S.fG):aP Tryz.prog f=true∧S.fG.Ok Tryz.prog txn.bA f:=IY.ok.sm f _ h
def uQ {ph:Int} {y:af DP} {r:af Q4} (h:cG ph y=some r):(ph=0∧W5.F y=some r)∨(ph=1∧Vt.F y=some r)∨(ph=2∧We.F y=some r)∨(ph=3∧Wp.F y=some r)∨(ph=4∧VG.F y=some r)∨(ph=5∧VC.F y=some r):=by
 unfold cG at h
 by_cases h0:ph=0
 ·rw [h0,beq_self_eq_true,cond_true] at h;exact .inl ⟨h0,h⟩
 rw [beq_false_of_ne h0,cond_false] at h
 by_cases h1:ph=1
 ·rw [h1,beq_self_eq_true,cond_true] at h;exact .inr (.inl ⟨h1,h⟩)
 rw [beq_false_of_ne h1,cond_false] at h
 by_cases h2:ph=2
 ·rw [h2,beq_self_eq_true,cond_true] at h;exact .inr (.inr (.inl ⟨h2,h⟩))
 rw [beq_false_of_ne h2,cond_false] at h
 by_cases h3:ph=3
 ·rw [h3,beq_self_eq_true,cond_true] at h;exact .inr (.inr (.inr (.inl ⟨h3,h⟩)))
 rw [beq_false_of_ne h3,cond_false] at h
 by_cases h4:ph=4
 ·rw [h4,beq_self_eq_true,cond_true] at h;exact .inr (.inr (.inr (.inr (.inl ⟨h4,h⟩))))
 rw [beq_false_of_ne h4,cond_false] at h
 by_cases h5:ph=5
 ·rw [h5,beq_self_eq_true,cond_true] at h;exact .inr (.inr (.inr (.inr (.inr ⟨h5,h⟩))))
 rw [beq_false_of_ne h5,cond_false] at h
 cases h
def Ev {W:World} {Q:Ending→World→Prop} {ds:List Deferred} {args:List Sx.T} {m:M} {k:Value→List Fact→Tree} {g ph i tr:Int} {a1:Option Addr} {n1 c1:Nat} {a2:Option Addr} {n2 c2:Nat} {er s n t c gs:Int} {d:ByteArray} {a3:Option Addr} {n3 c3:Nat} {sl:Int} (hv:aH args=some [uK g ph i tr a1 n1 c1 a2 n2 c2 er s n t c gs d a3 n3 c3 sl])
  (h:∀q,W.heap.size≤q→(k (.map (some q)) [bL q (gU (uK g ph i tr a1 n1 c1 a2 n2 c2 er s n t c gs d a3 n3 c3 sl))]).aD Tryz.prog W none Q ds):(Tree.call 37 args m k).aD Tryz.prog W none Q ds:=
 ⟨by kernel_rfl,fun β ρ w us hM hr=>by
  rw [aE _ _ _ hv hr]
  refine (Em.ways g ph i tr a1 n1 c1 a2 n2 c2 er s n t c gs d a3 n3 c3 sl w).mono ?_
  rintro e w' ⟨q,rfl,hb,hf⟩
  refine ⟨_,_,rfl,hb,fun φ hφ g hg=>?_,h q ?_⟩
  ·obtain ⟨h1,h2⟩:=hf φ hφ g hg
   exact ⟨.inr (.inl h1),h2⟩
  ·exact Nat.le_trans hM.below.size (hf _ (.head _) q rfl).1⟩
def ow {W:World} {N:Nat→Prop} {q:Nat} (hq:W.heap.size≤q) (l:List (Int×Value)) {fs:List Fact} (h:nO W N fs):nO W N (bL q l::fs):=fun φ hφ g hg=>by
 rcases List.mem_cons.1 hφ with rfl | hφ
 ·cases hg;exact .inl hq
 ·exact h φ hφ g hg
def CL {W:World} {O:Nat→Prop} {gs:List Fact} (h:xU (Ar W O) gs):nO W O gs:=fun φ hφ g hg=>by
 obtain ⟨a,ys,rfl,h3,h4⟩:=h φ hφ
 exact .inr (h4 g hg)
def xA:Qz.fG.Ok Tryz.prog txn.bA 13:=by
 intro O w x vs hw hp hl
 have hp:(F_2 x).isSome=true:=hp
 obtain ⟨r,hr⟩:=Option.isSome_iff_exists.1 hp
 obtain ⟨gs,h1,h2⟩:=cn.got hl
 have hN:=(CL (W:=w) h2).VY
 have h1:=cn.mono CA h1
 have hB:∀w',Below w.heap.size w w'→txn.bA w':=fun w' h=>hw.later h
 have hF:Qz.fG.F x=r:=(wO hr).2
 rw [hF]
 clear hF hp
 obtain ⟨v,k,s,u⟩:=x
 obtain ⟨y1,us1,rfl,k1,y2,us2,rfl,k2,y3,us3,rfl,k3,k4⟩:=h1
 have k2:y2=.int .i64 k:=k2
 have k4:us3=[]:=k4
 subst k2 k4
 obtain ⟨sl,e1,e2⟩:=iM k1
 obtain ⟨a1,n1,c1,a2,n2,c2,a3,n3,c3,rfl⟩:=Is e1
 obtain ⟨sl,e3,e4⟩:=iM k3
 obtain ⟨a4,n4,c4,a5,n5,c5,rfl⟩:=HM e3
 subst e2 e4
 obtain ⟨g,ph,i,tr,vs,cp,⟨er,⟨ts,tn,tt,tc,tg,td,u1⟩,tx,Jf,u2⟩,u3⟩:=v
 obtain ⟨⟨g1,g2,g3,g4,g5,g6,g7,g8,u4⟩,lk,⟨p1,p2,u5⟩,oV,u6⟩:=s
 unfold F_2 at hr
 obtain ⟨⟨b,ub⟩,ha,hr⟩:=fh.1 hr
 refine au gI.aq.keeps Tryz.func13 rfl [(3,(.one 0 (.one 2 (.one 3 (.one 5 (.one 6 (.one 1 (.now 4 (.one 7 (.one 8 (.one 9 (.one 10 (.one 11 (.last 12 (.last 13 (.last 14 .done)))))))))))))),[])),(4,(aK [0,2,4,1,3] [5,6,7],[]))] (by kernel_rfl) (gm::gs) (fun φ hφ g hg=>by
  rcases List.mem_cons.1 hφ with rfl | hφ
  ·cases hg
  ·obtain ⟨a,ys,rfl,h3,h4⟩:=h2 φ hφ;exact h3 g hg) ?_
 conv=>arg 5;whnf
 conv=>arg 5;whnf
 refine wu (S:=VZ) (vs:=[(AQ Mx (g,ph,i,tr,vs,cp,(er,(ts,tn,tt,tc,tg,td,u1),tx,Jf,u2),u3) [⟨a1,n1,c1⟩,⟨a2,n2,c2⟩,⟨a3,n3,c3⟩]),.int .i64 k,(AQ Mn ((g1,g2,g3,g4,g5,g6,g7,g8,u4),lk,(p1,p2,u5),oV,u6) [⟨a4,n4,c4⟩,⟨a5,n5,c5⟩])]) ha (vM (by kernel_rfl)) hB hN ⟨_,_,rfl,k1,_,_,rfl,rfl,_,_,rfl,k3,rfl⟩ rfl (fun us gs1 hu hN1=>?_)
 obtain ⟨y,us,rfl,q1,q2⟩:=hu
 have q1:y=.bool b:=q1
 have q2:us=[]:=q2
 subst q1 q2
 have hr:az b (xb (cG ph (((g,ph,i,tr,vs,cp,(er,(ts,tn,tt,tc,tg,td,u1),tx,Jf,u2),u3),k,((g1,g2,g3,g4,g5,g6,g7,g8,u4),lk,(p1,p2,u5),oV,u6),u):af DP)) fun r=>eP r.1 r.2.1 r.2.2.1) (eP (g,ph,i,tr,vs,cp,(er,(ts,tn,tt,tc,tg,td,u1),tx,Jf,u2),u3) ((g1,g2,g3,g4,g5,g6,g7,g8,u4),lk,(p1,p2,u5),oV,u6) 0)=some r:=hr
 cases b with
 | false=>
  have hr:eP (g,ph,i,tr,vs,cp,(er,(ts,tn,tt,tc,tg,td,u1),tx,Jf,u2),u3) ((g1,g2,g3,g4,g5,g6,g7,g8,u4),lk,(p1,p2,u5),oV,u6) 0=some r:=hr
  unfold eP at hr
  obtain ⟨⟨c,uc⟩,hc,hr⟩:=fh.1 hr
  obtain ⟨⟨d,ud⟩,hd,hr⟩:=fh.1 hr
  have hr:(c,d,(0:Int),())=r:=Option.some.inj hr
  conv=>arg 5;whnf
  have k1:=k1.mono (R':=eC (gm::gs1++(gm::gs))) (oA fun _ h=>List.mem_append_right _ h)
  refine wu (S:=Ub) (vs:=[(AQ Mx (g,ph,i,tr,vs,cp,(er,(ts,tn,tt,tc,tg,td,u1),tx,Jf,u2),u3) [⟨a1,n1,c1⟩,⟨a2,n2,c2⟩,⟨a3,n3,c3⟩])]) hc (vM (by kernel_rfl)) hB (hN1.app hN) ⟨_,_,rfl,k1,rfl⟩ rfl (fun us gs2 hu hN2=>?_)
  obtain ⟨y2,us,rfl,q3,q2⟩:=hu
  have q2:us=[]:=q2
  subst q2
  conv=>arg 5;whnf
  have k3:=k3.mono (R':=eC (gm::gs2++(gm::gs1++(gm::gs)))) (oA fun _ h=>List.mem_append_right _ (List.mem_append_right _ h))
  refine wu (S:=Ui) (vs:=[(AQ Mn ((g1,g2,g3,g4,g5,g6,g7,g8,u4),lk,(p1,p2,u5),oV,u6) [⟨a4,n4,c4⟩,⟨a5,n5,c5⟩])]) hd (vM (by kernel_rfl)) hB (hN2.app (hN1.app hN)) ⟨_,_,rfl,k3,rfl⟩ rfl (fun us gs3 hu hN3=>?_)
  obtain ⟨y3,us,rfl,q4,q2⟩:=hu
  have q2:us=[]:=q2
  subst q2
  have q3:=q3.mono (R':=eC (gm::gs3++(gm::gs2++(gm::gs1++(gm::gs))))) (oA fun _ h=>List.mem_append_right _ (List.mem_append_left _ h))
  have q4:=q4.mono (R':=eC (gm::gs3++(gm::gs2++(gm::gs1++(gm::gs))))) (oA fun _ h=>List.mem_append_left _ h)
  obtain ⟨sl,e5,e6⟩:=iM q3
  obtain ⟨b1,m1,d1,b2,m2,d2,b3,m3,d3,rfl⟩:=Is e5
  obtain ⟨sl,e7,e8⟩:=iM q4
  obtain ⟨b4,m4,d4,b5,m5,d5,rfl⟩:=HM e7
  subst e6 e8
  conv=>arg 5;whnf
  subst hr
  exact av fun β ρ w' hM'=>⟨[_,_,.int .i64 0],rfl,hM'.below,C5 hM' (hN3.app (hN2.app (hN1.app hN))) ⟨_,_,rfl,q3,_,_,rfl,q4,_,_,rfl,rfl,rfl⟩⟩
 | true=>
  have hr:(xb (cG ph (((g,ph,i,tr,vs,cp,(er,(ts,tn,tt,tc,tg,td,u1),tx,Jf,u2),u3),k,((g1,g2,g3,g4,g5,g6,g7,g8,u4),lk,(p1,p2,u5),oV,u6),u):af DP)) fun r=>eP r.1 r.2.1 r.2.2.1)=some r:=hr
  obtain ⟨⟨v',s',k',ur⟩,hm,hr⟩:=fh.1 hr
  have hr:eP v' s' k'=some r:=hr
  unfold eP at hr
  obtain ⟨⟨c,uc⟩,hc,hr⟩:=fh.1 hr
  obtain ⟨⟨d,ud⟩,hd,hr⟩:=fh.1 hr
  have hrE:(c,d,k',())=r:=Option.some.inj hr
  rcases uQ hm with ⟨rfl,hm⟩ | ⟨rfl,hm⟩ | ⟨rfl,hm⟩ | ⟨rfl,hm⟩ | ⟨rfl,hm⟩ | ⟨rfl,hm⟩
  all_goals
   conv=>arg 5;whnf
   refine Ev (g:=g) (i:=i) (tr:=tr) (a1:=a1) (n1:=n1) (c1:=c1) (a2:=a2) (n2:=n2) (c2:=c2) (er:=er) (s:=ts) (n:=tn) (t:=tt) (c:=tc) (gs:=tg) (d:=td) (a3:=a3) (n3:=n3) (c3:=c3) (sl:=Jf) (by rfl) (fun q hq=>?_)
   conv=>arg 5;whnf
   refine ct (z:=.nilFunc) (l:=gU _) Tryz.underlying101 Tryz.underlying3 (fun w=>by kernel_rfl) (by exact .head _) ?_
   conv=>arg 5;whnf
   refine wu (N:=O) hm (vM (by kernel_rfl)) hB (ow hq _ (hN1.app hN)) ⟨_,_,rfl,k1.mono fun a xs h=>h.mono fun φ hφ=>List.Mem.tail _ (List.mem_append_right (gm::gs1) hφ),_,_,rfl,rfl,_,_,rfl,k3.mono fun a xs h=>h.mono fun φ hφ=>List.Mem.tail _ (List.mem_append_right (gm::gs1) hφ),rfl⟩ (by rfl) (fun us gs2 hu hN2=>?_)
   obtain ⟨y2,us,rfl,q3,y3,us,rfl,q4,y4,us,rfl,q5,q2⟩:=hu
   have q5:y4=.int .i64 k':=q5
   have q2:us=[]:=q2
   subst q5 q2
   obtain ⟨sl,e5,e6⟩:=iM q3
   obtain ⟨b1,m1,d1,b2,m2,d2,b3,m3,d3,rfl⟩:=Is e5
   obtain ⟨sl,e7,e8⟩:=iM q4
   obtain ⟨b4,m4,d4,b5,m5,d5,rfl⟩:=HM e7
   subst e6 e8
   conv=>arg 5;whnf
   refine wu (S:=Ub) (vs:=[(AQ Mx v' [⟨b1,m1,d1⟩,⟨b2,m2,d2⟩,⟨b3,m3,d3⟩])]) hc (vM (by kernel_rfl)) hB (hN2.app (ow hq _ (hN1.app hN))) ⟨_,_,rfl,q3.mono fun a xs h=>h.mono fun φ hφ=>List.mem_append_left _ hφ,rfl⟩ rfl (fun us gs3 hu hN4=>?_)
   obtain ⟨y2,us,rfl,q6,q2⟩:=hu
   have q2:us=[]:=q2
   subst q2
   conv=>arg 5;whnf
   refine wu (S:=Ui) (vs:=[(AQ Mn s' [⟨b4,m4,d4⟩,⟨b5,m5,d5⟩])]) hd (vM (by kernel_rfl)) hB (hN4.app (hN2.app (ow hq _ (hN1.app hN)))) ⟨_,_,rfl,q4.mono fun a xs h=>h.mono fun φ hφ=>List.mem_append_right (gm::gs3) (List.mem_append_left _ hφ),rfl⟩ rfl (fun us gs4 hu hN5=>?_)
   obtain ⟨y3,us,rfl,q7,q2⟩:=hu
   have q2:us=[]:=q2
   subst q2
   obtain ⟨sl,e5,e6⟩:=iM q6
   obtain ⟨f1,o1,r1,f2,o2,r2,f3,o3,r3,rfl⟩:=Is e5
   obtain ⟨sl,e7,e8⟩:=iM q7
   obtain ⟨f4,o4,r4,f5,o5,r5,rfl⟩:=HM e7
   subst e6 e8
   conv=>arg 5;whnf
   subst hrE
   exact av fun β ρ w' hM'=>⟨[_,_,.int .i64 k'],rfl,hM'.below,C5 hM' (hN5.app (hN4.app (hN2.app (ow hq _ (hN1.app hN))))) ⟨_,_,rfl,q6.mono fun a xs h=>h.mono fun φ hφ=>List.mem_append_right (gm::gs4) (List.mem_append_left _ hφ),_,_,rfl,q7.mono fun a xs h=>h.mono fun φ hφ=>List.mem_append_left _ hφ,_,_,rfl,rfl,rfl⟩⟩
def tH:EE:={ tA with sm:=(13,Qz)::tA.sm }
def ML:tH.gM.nq gI.env Tryz.prog txn.bA EN:=EE.cP IY (by kernel_rfl) (S:=Qz) xA
end Go.Proofs.YtdbjakibneeeiaaGreatDoor.Ex
namespace Go.Proofs.YtdbjakibneeeiaaGreatDoor.Ex
open Go.RowKit Sx
def Q9:FH:=⟨[(1,(aK [0,2,1,3] [4,5],[])),(7,(line [0,1,2,3],[2,3]))],[(3,⟨[],0,⟨[.any,.d .int,.any,.any,.p 0 0,.any,.p 1 0,.any,.p 2 0,.p 3 0]++an 5 ([.d .int,.d .int]++an 17 []),[some ([.d z7],50),some ([.d z5],46),some ([.d z7],50),some ([.d z5],46)],[]⟩,[(.exit 0,⟨an 4 ([.p 0 0,.any,.p 1 0,.any,.p 2 0,.p 3 0]++an 24 []),[some ([.d z7],50),some ([.d z5],46),some ([.d z7],50),some ([.d z5],46)],[]⟩)]⟩)],[],[]⟩
@[irreducible] def rK (x:af [z7,.int,z5,.int]):Option (af [z7,z5]):=xf tH Q9 16 x
def xV:EE:=tH.ad 16 ⟨_,_,rK⟩
def Ud:bB xV:=bR ML Q9 (by kernel_rfl) fun x=>by unfold rK;rfl
def h_1:FH:=⟨[(20,(p9 [1] (.fork3 0 (.fork3 2 (p9 [3,4,5] (.fork 6 (aK [7] [8,9]) 7 (aK [6] [8,9]))) 6 (.fork 2 (aK [3,4,5,7] [8,9]) 7 (aK [2,3,4,5] [8,9])) 7 (.fork 2 (aK [3,4,5,6] [8,9]) 6 (aK [2,3,4,5] [8,9]))) 6 (.fork 0 (.fork 2 (aK [3,4,5,7] [8,9]) 7 (aK [2,3,4,5] [8,9])) 7 (aK [0,2,3,4,5] [8,9])) 7 (.fork 0 (.fork 2 (aK [3,4,5,6] [8,9]) 6 (aK [2,3,4,5] [8,9])) 6 (aK [0,2,3,4,5] [8,9]))),[]))],[(8,⟨[],0,⟨[.any,.any,.p 0 0]++an 3 ([.p 1 0,.p 2 0,.d .int]++an 186 []),[some ([.d z5],46),some ([.d ji],94),some ([.d z7],50)],[]⟩,[(.exit 0,⟨[.any,.any,.p 0 0]++an 4 ([.p 1 0]++an 187 []),[some ([.d z5],46),some ([.d z7],50)],[]⟩)]⟩)],[],[(20,⟨[.any,.any,.p 0 0]++an 4 ([.p 1 0]++an 5 ([.p 2 0,.any,.d .int,.p 3 0,.p 4 0,.any,.p 5 0]++an 175 [])),[some ([.d z5],46),some ([.d z7],50),some ([.d z7],50),some ([.d z7],50),some ([.d z5],46),some ([.d z7],50)],[]⟩)]⟩
@[irreducible] def F_1 (x:af []):Option (af [.bool]):=xf xV h_1 11 x
def t_1:EE:=xV.ad 11 ⟨_,_,F_1⟩
def RV:bB t_1:=bR Ud h_1 (by kernel_rfl) fun x=>by unfold F_1;rfl
abbrev tB:EE:=t_1
def MO:tB.gM.nq gI.env Tryz.prog txn.bA EN:=RV
end Go.Proofs.YtdbjakibneeeiaaGreatDoor.Ex
namespace Go.Proofs.YtdbjakibneeeiaaGreatDoor.Ex
open Go.RowKit Sx
def Xt (x:(Y7×(Int×(Y5×(Int×Unit))))):rK x =
 xb (Ml (x.1,())) (fun (y0:(Y7×Unit))=>xb (Mc (x.2.2.1,())) (fun (y1:(Y5×Unit))=>xb (b6 (S:=(Gy×Tq)) (R:=((Unit×Tq) ⊕ Empty)) (fun (s2:(Gy×Tq))=>az (decide (s2.1.2.2.1<s2.1.2.1)) (xb (F_9 (s2.2.1.1.1,(s2.1.1,s2.2.1.2.1))) (fun (y3:(Bool×Unit))=>az (!y3.1) (some (.inr (.inl ((),s2.2)))) (xb (F_2 (s2.2.1.1.1,(s2.1.1,s2.2.1.2.1))) (fun (y4:Ta)=>gd (dx (s2.1.2.2.1+(1:Int))) (some (.inl ((s2.1.1,(s2.1.2.1,((s2.1.2.2.1+(1:Int)),()))),(((y4.1,()),((y4.2.1,()),s2.2.1.2.2)),())))))))) (some (.inr (.inl ((),s2.2))))) bn ((x.2.1,((if (10000:Int)<x.2.2.2.1 then (10000:Int) else x.2.2.2.1),((0:Int),()))),((y0,(y1,((((0:Int),((0:Int),((0:Int),((0:Int),([],([],(((0:Int),(((0:Int),((0:Int),((0:Int),((0:Int),((0:Int),(ByteArray.empty,())))))),([],((0:Int),())))),()))))))),()),(((((0:Int),((0:Int),((0:Int),((0:Int),((0:Int),((0:Int),((0:Int),((0:Int),())))))))),([],(((0:Int),((0:Int),())),([],())))),()),())))),()))) (fun (y5:((Unit×Tq) ⊕ Empty))=>xs y5 (fun (y6:(Unit×Tq))=>some (y6.2.1.1.1,y6.2.1.2.1)) (fun (y7:Empty)=>xe y7)))):=by kernel_rfl
def Xl (x:(Y0×Unit)):Mp x =
 az ((decide (x.1.1<(0:Int)))==false) (az ((decide (x.1.1>(255:Int)))==false) (az ((decide (x.1.2.1<(0:Int)))==false) (az ((decide (x.1.2.1≥(4294967296:Int)))==false) (az ((decide (x.1.2.2.1<(0:Int)))==false) (az ((decide (x.1.2.2.1>x.1.2.2.2.1))==false) (az (decide (x.1.2.2.2.1>(1099511627776:Int))) (some (false,())) (az ((decide (x.1.2.2.2.2.1≥(1:Int)))==true) (az ((decide (x.1.2.2.2.2.1≤(1073741824:Int)))==true) (some ((decide ((((ByteArray.size x.1.2.2.2.2.2.1):Nat):Int)≤(256:Int))),())) (some (false,()))) (some (false,())))) (some (false,()))) (some (false,()))) (some (false,()))) (some (false,()))) (some (false,()))) (some (false,())):=by kernel_rfl
def WQ (x:(Y1×(Int×Unit))):MH x =
 az ((decide (x.1.1<(0:Int)))==false) (az ((decide (x.1.1>(255:Int)))==false) (az ((decide (x.1.2.1<(0:Int)))==false) (az ((decide (x.1.2.1≥(4294967296:Int)))==false) (az ((decide (x.2.1<(1:Int)))==false) (az ((decide (x.2.1>(16:Int)))==false) (az (decide ((((List.length x.1.2.2.1):Nat):Int)>x.2.1)) (some (false,())) (xb (b6 (S:=((Int×Unit)×TA)) (R:=(T1 ⊕ T3)) (fun (s0:((Int×Unit)×TA))=>az (decide (s0.1.1<(((List.length s0.2.1.1.1.2.2.1):Nat):Int))) (gd (di s0.1.1 (List.length s0.2.1.1.1.2.2.1)) (gd (decide ((Int.toNat s0.1.1)<(List.length s0.2.1.1.1.2.2.1))) (xb (Mp ((List.getD s0.2.1.1.1.2.2.1 (Int.toNat s0.1.1) ((0:Int),((0:Int),((0:Int),((0:Int),((0:Int),(ByteArray.empty,()))))))),())) (fun (y1:(Bool×Unit))=>az ((!y1.1)==false) (az (((List.getD s0.2.1.1.1.2.2.1 (Int.toNat s0.1.1) ((0:Int),((0:Int),((0:Int),((0:Int),((0:Int),(ByteArray.empty,()))))))).1 != s0.2.1.1.1.1)==false) (az ((decide ((List.getD s0.2.1.1.1.2.2.1 (Int.toNat s0.1.1) ((0:Int),((0:Int),((0:Int),((0:Int),((0:Int),(ByteArray.empty,()))))))).2.1<s0.2.1.1.1.2.1))==false) (az ((decide (s0.1.1>(0:Int)))==true) (gd (dx (s0.1.1 - (1:Int))) (gd (di (s0.1.1 - (1:Int)) (List.length s0.2.1.1.1.2.2.1)) (gd (decide ((Int.toNat (s0.1.1 - (1:Int)))<(List.length s0.2.1.1.1.2.2.1))) (az (decide ((List.getD s0.2.1.1.1.2.2.1 (Int.toNat (s0.1.1 - (1:Int))) ((0:Int),((0:Int),((0:Int),((0:Int),((0:Int),(ByteArray.empty,()))))))).2.1≥(List.getD s0.2.1.1.1.2.2.1 (Int.toNat s0.1.1) ((0:Int),((0:Int),((0:Int),((0:Int),((0:Int),(ByteArray.empty,()))))))).2.1)) (some (.inr (.inl ((false,()),((),()))))) (gd (dx (s0.1.1+(1:Int))) (some (.inl (((s0.1.1+(1:Int)),()),s0.2)))))))) (gd (dx (s0.1.1+(1:Int))) (some (.inl (((s0.1.1+(1:Int)),()),s0.2))))) (some (.inr (.inl ((false,()),((),())))))) (some (.inr (.inl ((false,()),((),())))))) (some (.inr (.inl ((false,()),((),()))))))))) (some (.inr (.inr (.inl ((),((),()))))))) bn (((0:Int),()),(((x.1,()),()),()))) (fun (y2:(T1 ⊕ T3))=>xs y2 (fun (y3:T1)=>some y3.1) (fun (y4:T3)=>xs y4 (fun (y5:Th)=>some (true,())) (fun (y6:Empty)=>xe y6))))) (some (false,()))) (some (false,()))) (some (false,()))) (some (false,()))) (some (false,()))) (some (false,())):=by kernel_rfl
def Yj (x:(Y1×Unit)):Mm x =
 az ((x.1.2.1==(0:Int))==true) (some (((((List.length x.1.2.2.1):Nat):Int)==(0:Int)),())) (some (false,())):=by kernel_rfl
def XH (x:(Y4×(Int×(Y2×Unit)))):Mt x =
 az ((decide (x.1.2.1<(0:Int)))==false) (az (decide (x.1.2.1>(1099511627776:Int))) (some (false,())) (xb (b6 (S:=(Y3×Tm)) (R:=(T1 ⊕ T3)) (fun (s0:(Y3×Tm))=>az (decide (s0.1.2.1<(((List.length s0.2.1.1.1.1):Nat):Int))) (gd (di s0.1.2.1 (List.length s0.2.1.1.1.1)) (gd (decide ((Int.toNat s0.1.2.1)<(List.length s0.2.1.1.1.1))) (xb (MH ((List.getD s0.2.1.1.1.1 (Int.toNat s0.1.2.1) ((0:Int),((0:Int),([],())))),(s0.2.1.2.1.1.2.2.2.1,()))) (fun (y1:(Bool×Unit))=>az ((!y1.1)==false) (xb (Mm ((List.getD s0.2.1.1.1.1 (Int.toNat s0.1.2.1) ((0:Int),((0:Int),([],())))),())) (fun (y2:(Bool×Unit))=>az (y2.1==false) (xb (MC ((List.getD s0.2.1.1.1.1 (Int.toNat s0.1.2.1) ((0:Int),((0:Int),([],())))).1,(s0.2.1.2.1.1.1,()))) (fun (y3:(Int×Unit))=>az ((y3.1 != s0.1.1)==false) (az ((decide (s0.1.2.1>(0:Int)))==true) (gd (dx (s0.1.2.1 - (1:Int))) (gd (di (s0.1.2.1 - (1:Int)) (List.length s0.2.1.1.1.1)) (gd (decide ((Int.toNat (s0.1.2.1 - (1:Int)))<(List.length s0.2.1.1.1.1))) (az (decide ((List.getD s0.2.1.1.1.1 (Int.toNat (s0.1.2.1 - (1:Int))) ((0:Int),((0:Int),([],())))).1≥(List.getD s0.2.1.1.1.1 (Int.toNat s0.1.2.1) ((0:Int),((0:Int),([],())))).1)) (some (.inr (.inl ((false,()),((),()))))) (gd (dx (s0.1.2.1+(1:Int))) (some (.inl ((s0.1.1,((s0.1.2.1+(1:Int)),())),s0.2)))))))) (gd (dx (s0.1.2.1+(1:Int))) (some (.inl ((s0.1.1,((s0.1.2.1+(1:Int)),())),s0.2))))) (some (.inr (.inl ((false,()),((),()))))))) (some (.inr (.inl ((false,()),((),()))))))) (some (.inr (.inl ((false,()),((),()))))))))) (some (.inr (.inr (.inl ((),((),()))))))) bn ((x.2.1,((0:Int),())),(((x.1,()),(x.2.2,())),()))) (fun (y4:(T1 ⊕ T3))=>xs y4 (fun (y5:T1)=>some y5.1) (fun (y6:T3)=>xs y6 (fun (y7:Th)=>some (true,())) (fun (y8:Empty)=>xe y8))))) (some (false,())):=by kernel_rfl
def Yq (x:(Y2×Unit)):Fg x =
 az ((decide (x.1.1<(1:Int)))==false) (az ((decide (x.1.1>(8:Int)))==false) (az ((decide (x.1.2.1<(0:Int)))==false) (az ((decide (x.1.2.1>x.1.2.2.1))==false) (az ((decide (x.1.2.2.1<(1:Int)))==false) (az ((decide (x.1.2.2.1>(1000:Int)))==false) (az ((decide (x.1.2.2.2.1<(1:Int)))==false) (az (decide (x.1.2.2.2.1>(16:Int))) (some (false,())) (az ((decide (x.1.2.2.2.2.1≥(0:Int)))==true) (az ((decide (x.1.2.2.2.2.1≤(100:Int)))==true) (az ((decide (x.1.2.2.2.2.2.1≥(1:Int)))==true) (az ((decide (x.1.2.2.2.2.2.1≤(16:Int)))==true) (az ((decide (x.1.2.2.2.2.2.2.1≥(1:Int)))==true) (az ((decide (x.1.2.2.2.2.2.2.1≤(4:Int)))==true) (az ((decide (x.1.2.2.2.2.2.2.2.1≥(1:Int)))==true) (some ((decide (x.1.2.2.2.2.2.2.2.1≤(8:Int))),())) (some (false,()))) (some (false,()))) (some (false,()))) (some (false,()))) (some (false,()))) (some (false,()))) (some (false,())))) (some (false,()))) (some (false,()))) (some (false,()))) (some (false,()))) (some (false,()))) (some (false,()))) (some (false,())):=by kernel_rfl
def Yl (x:(Y5×Unit)):NI x =
 xb (Fg (x.1.1,())) (fun (y0:(Bool×Unit))=>az ((!y0.1)==false) (az (((((List.length x.1.2.1):Nat):Int) != x.1.1.1)==false) (az (((((List.length x.1.2.2.2.1):Nat):Int) != x.1.1.1)==false) (az ((x.1.2.2.1.2.1 != x.1.1.2.2.1)==false) (az ((decide (x.1.2.2.1.1<(0:Int)))==false) (az (decide (x.1.2.2.1.1>x.1.1.2.2.1)) (some (false,())) (xb (b6 (S:=((Int×Unit)×(((Y5×Unit)×((Y2×Unit)×Unit))×Unit))) (R:=(T1 ⊕ T3)) (fun (s1:((Int×Unit)×(((Y5×Unit)×((Y2×Unit)×Unit))×Unit)))=>az (decide (s1.1.1<s1.2.1.2.1.1.1)) (gd (di s1.1.1 (List.length s1.2.1.1.1.2.1)) (gd (decide ((Int.toNat s1.1.1)<(List.length s1.2.1.1.1.2.1))) (az ((decide ((List.getD s1.2.1.1.1.2.1 (Int.toNat s1.1.1) (0:Int))<(0:Int)))==false) (gd (di s1.1.1 (List.length s1.2.1.1.1.2.2.2.1)) (gd (decide ((Int.toNat s1.1.1)<(List.length s1.2.1.1.1.2.2.2.1))) (xb (Mt ((List.getD s1.2.1.1.1.2.2.2.1 (Int.toNat s1.1.1) ([],((0:Int),()))),(s1.1.1,s1.2.1.2.1))) (fun (y2:(Bool×Unit))=>az (!y2.1) (some (.inr (.inl ((false,()),((),()))))) (gd (dx (s1.1.1+(1:Int))) (some (.inl (((s1.1.1+(1:Int)),()),s1.2)))))))) (some (.inr (.inl ((false,()),((),())))))))) (some (.inr (.inr (.inl ((),((),()))))))) bn (((0:Int),()),((x,((x.1.1,()),())),()))) (fun (y3:(T1 ⊕ T3))=>xs y3 (fun (y4:T1)=>some y4.1) (fun (y5:T3)=>xs y5 (fun (y6:Th)=>some (true,())) (fun (y7:Empty)=>xe y7))))) (some (false,()))) (some (false,()))) (some (false,()))) (some (false,()))) (some (false,()))):=by kernel_rfl
def pN:Code→Option Code
 | .loop b=>some b
 | .seq a b=>match pN a with
  | some c=>some c
  | none=>pN b
 | .block _ b=>pN b
 | .cond _ x y=>match pN x with
  | some c=>some c
  | none=>pN y
 | _=>none
def Mr:LH:=⟨[],0,⟨[.d (.row .int),.any,.d .int,.d (.num 7)]++an 5 ([.d .int]++an 15 []),[],[]⟩,[(.ret,⟨an 8 ([.d .int]++an 16 []),[],[]⟩),(.exit 0,⟨[.d (.row .int)]++an 24 [],[],[]⟩)]⟩
def Xv:Code:=match Tryz.prog.funcs[92]? with
 | none=>.skip
 | some fn=>match fn.body with
  | none=>.skip
  | some c=>(pN c).getD .skip
def Qs (x:To×(Unit×Unit)):Option ((To×(Unit×Unit)) ⊕ Td):=
 dP Tryz.prog { EN with pre:=Mw.pre } Pj Mw (dP Tryz.prog { EN with pre:=Mw.pre } Pj Mw fun _ _ _ _ _ _=>none) Xv (Mr.head.T ⊕ Bl Mr.exits) (@tU _ _ inferInstance (JR Mr.exits)) (lay Mr.head x).1 (lay Mr.head x).2 (Am Mr)
def Xp (L:List Int) (i w:Int):H7 (L,i,w,(Value.func (.func 95) #[] #[]),()) =
 xb (b6 (S:=(To×(Unit×Unit))) (R:=Td) Qs bn ((L,(w,((Value.func (.func 95) #[] #[]),(i,())))),((),()))) (fun (y1:Td)=>xs y1 (fun (y2:Tt)=>some y2.1) (fun (y3:((T7×(Unit×Unit)) ⊕ Empty))=>xs y3 (fun (y4:(T7×(Unit×Unit)))=>some ((((List.length y4.1.1):Nat):Int),())) (fun (y5:Empty)=>xe y5))):=by kernel_rfl
def Xz (L:List Int) (i w:Int):H7 (L,i,w,(Value.func (.func 93) #[] #[]),()) =
 xb (b6 (S:=(To×(Unit×Unit))) (R:=Td) Qs bn ((L,(w,((Value.func (.func 93) #[] #[]),(i,())))),((),()))) (fun (y1:Td)=>xs y1 (fun (y2:Tt)=>some y2.1) (fun (y3:((T7×(Unit×Unit)) ⊕ Empty))=>xs y3 (fun (y4:(T7×(Unit×Unit)))=>some ((((List.length y4.1.1):Nat):Int),())) (fun (y5:Empty)=>xe y5))):=by kernel_rfl
def vi (L:List Int) (w k:Int):Qs ((L,(w,(Value.func (.func 95) #[] #[],(k,())))),((),())) =
 az (decide (k<((List.length L:Nat):Int))) (xb (Ld (L,(k,(w,())))) (fun (y:Bool×Unit)=>az y.1 (some (.inr (.inl ((k,()),((),()))))) (gd (dx (k+(1:Int))) (some (.inl ((L,(w,(Value.func (.func 95) #[] #[],(k+(1:Int),())))),((),()))))))) (some (.inr (.inr (.inl ((L,()),((),()))))))
 :=by kernel_rfl
def vt (L:List Int) (w k:Int):Qs ((L,(w,(Value.func (.func 93) #[] #[],(k,())))),((),())) =
 az (decide (k<((List.length L:Nat):Int))) (xb (FQ (L,(k,(w,())))) (fun (y:Bool×Unit)=>az y.1 (some (.inr (.inl ((k,()),((),()))))) (gd (dx (k+(1:Int))) (some (.inl ((L,(w,(Value.func (.func 93) #[] #[],(k+(1:Int),())))),((),()))))))) (some (.inr (.inr (.inl ((L,()),((),()))))))
 :=by kernel_rfl
end Go.Proofs.YtdbjakibneeeiaaGreatDoor.Ex

namespace Go.Proofs.YtdbjakibneeeiaaGreatDoor.Ex
open Go.RowKit Sx
abbrev tC:EE:=tB
def a08:tC.gM.nq gI.env Tryz.prog txn.bA EN:=MO
end Go.Proofs.YtdbjakibneeeiaaGreatDoor.Ex
namespace Go.Proofs.YtdbjakibneeeiaaGreatDoor.Ex
open Go.RowKit Sx
def Uh (x:((List Int)×(Int×Unit))):F_12 x =
 az ((decide (x.2.1≥(0:Int)))==true) (az ((decide (x.2.1<(((List.length x.1):Nat):Int)))==true) (gd (di x.2.1 (List.length x.1)) (gd (decide ((Int.toNat x.2.1)<(List.length x.1))) (some (((List.getD x.1 (Int.toNat x.2.1) (0:Int))==(0:Int)),())))) (some (false,()))) (some (false,())):=by kernel_rfl
def UT (x:((List Int)×(Int×Unit))):F_13 x =
 xb (b6 (S:=(((List Int)×Y3)×(Unit×((List Int)×Unit)))) (R:=((Unit×(Unit×((List Int)×Unit))) ⊕ Empty)) (fun (s0:(((List Int)×Y3)×(Unit×((List Int)×Unit))))=>az (decide (s0.1.2.2.1<(((List.length s0.1.1):Nat):Int))) (az ((decide (s0.1.2.1≥(1:Int)))==true) (gd (di s0.1.2.2.1 (List.length s0.1.1)) (gd (decide ((Int.toNat s0.1.2.2.1)<(List.length s0.1.1))) (az ((List.getD s0.1.1 (Int.toNat s0.1.2.2.1) (0:Int))==s0.1.2.1) (gd ((Nat.ble ((List.length s0.2.2.1)+(List.length (s0.1.2.2.1::[]))) 9223372036854775807)&&(Nat.ble (((List.length s0.2.2.1)+(List.length (s0.1.2.2.1::[])))*(8:Nat)) (140737488355328:Nat))) (gd (dx (s0.1.2.2.1+(1:Int))) (some (.inl ((s0.1.1,(s0.1.2.1,((s0.1.2.2.1+(1:Int)),()))),((),((s0.2.2.1++(s0.1.2.2.1::[])),()))))))) (gd (dx (s0.1.2.2.1+(1:Int))) (some (.inl ((s0.1.1,(s0.1.2.1,((s0.1.2.2.1+(1:Int)),()))),((),s0.2.2)))))))) (gd (dx (s0.1.2.2.1+(1:Int))) (some (.inl ((s0.1.1,(s0.1.2.1,((s0.1.2.2.1+(1:Int)),()))),((),s0.2.2)))))) (some (.inr (.inl ((),((),s0.2.2)))))) bn ((x.1,(x.2.1,((0:Int),()))),((),([],())))) (fun (y1:((Unit×(Unit×((List Int)×Unit))) ⊕ Empty))=>xs y1 (fun (y2:(Unit×(Unit×((List Int)×Unit))))=>some y2.2.2) (fun (y3:Empty)=>xe y3)):=by kernel_rfl
def TY (x:(Y7×(Int×(Y5×Unit)))):F_10 x =
 az ((decide (x.2.1<(1:Int)))==false) (xb (NI x.2.2) (fun (y0:(Bool×Unit))=>az (!y0.1) (some (false,())) (az ((decide (x.1.2.2.1≥(0:Int)))==true) (az (x.1.2.1==(0:Int)) (some ((decide (x.1.2.2.1<(((List.length x.2.2.1.2.1):Nat):Int))),())) (az (x.1.2.1==(1:Int)) (some ((decide (x.1.2.2.1<(((List.length x.2.2.1.2.1):Nat):Int))),())) (az (x.1.2.1==(2:Int)) (some ((decide (x.1.2.2.1<(((List.length x.2.2.1.2.1):Nat):Int))),())) (az (x.1.2.1==(3:Int)) (xb (F_12 (x.2.2.1.2.1,(x.1.2.2.1,()))) (fun (y1:(Bool×Unit))=>some y1)) (az (x.1.2.1==(4:Int)) (xb (F_13 (x.2.2.1.2.1,(x.2.1,()))) (fun (y2:((List Int)×Unit))=>some (((((List.length y2.1):Nat):Int)==(((List.length x.2.2.1.2.1):Nat):Int)),()))) (az (x.1.2.1==(5:Int)) (az ((decide (x.1.2.2.1<(((List.length x.2.2.1.2.1):Nat):Int)))==true) (gd (di x.1.2.2.1 (List.length x.2.2.1.2.1)) (gd (decide ((Int.toNat x.1.2.2.1)<(List.length x.2.2.1.2.1))) (some (((List.getD x.2.2.1.2.1 (Int.toNat x.1.2.2.1) (0:Int))==x.2.1),())))) (some (false,()))) (some (false,())))))))) (az (x.1.2.1==(0:Int)) (some (false,())) (az (x.1.2.1==(1:Int)) (some (false,())) (az (x.1.2.1==(2:Int)) (some (false,())) (az (x.1.2.1==(3:Int)) (xb (F_12 (x.2.2.1.2.1,(x.1.2.2.1,()))) (fun (y3:(Bool×Unit))=>some y3)) (az (x.1.2.1==(4:Int)) (xb (F_13 (x.2.2.1.2.1,(x.2.1,()))) (fun (y4:((List Int)×Unit))=>some (((((List.length y4.1):Nat):Int)==(((List.length x.2.2.1.2.1):Nat):Int)),()))) (az (x.1.2.1==(5:Int)) (some (false,())) (some (false,()))))))))))) (some (false,())):=by kernel_rfl
def RA (x:((List Y1)×(Y1×Unit))):F_11 x =
 xb (b6 (S:=(((List Y1)×(Bool×(Int×Unit)))×(((Y1×Unit)×Unit)×((List Y1)×Unit)))) (R:=(((Bool×Unit)×(((Y1×Unit)×Unit)×((List Y1)×Unit))) ⊕ Empty)) (fun (s0:(((List Y1)×(Bool×(Int×Unit)))×(((Y1×Unit)×Unit)×((List Y1)×Unit))))=>az (decide (s0.1.2.2.1<(((List.length s0.1.1):Nat):Int))) (az ((!s0.1.2.1)==true) (gd (di s0.1.2.2.1 (List.length s0.1.1)) (gd (decide ((Int.toNat s0.1.2.2.1)<(List.length s0.1.1))) (az (decide ((List.getD s0.1.1 (Int.toNat s0.1.2.2.1) ((0:Int),((0:Int),([],())))).1>s0.2.1.1.1.1)) (gd ((Nat.ble ((List.length s0.2.2.1)+(List.length (s0.2.1.1.1::[]))) 9223372036854775807)&&(Nat.ble (((List.length s0.2.2.1)+(List.length (s0.2.1.1.1::[])))*(40:Nat)) (140737488355328:Nat))) (gd (di s0.1.2.2.1 (List.length s0.1.1)) (gd (decide ((Int.toNat s0.1.2.2.1)<(List.length s0.1.1))) (gd ((Nat.ble ((List.length (s0.2.2.1++(s0.2.1.1.1::[])))+(List.length ((List.getD s0.1.1 (Int.toNat s0.1.2.2.1) ((0:Int),((0:Int),([],()))))::[]))) 9223372036854775807)&&(Nat.ble (((List.length (s0.2.2.1++(s0.2.1.1.1::[])))+(List.length ((List.getD s0.1.1 (Int.toNat s0.1.2.2.1) ((0:Int),((0:Int),([],()))))::[])))*(40:Nat)) (140737488355328:Nat))) (gd (dx (s0.1.2.2.1+(1:Int))) (some (.inl ((s0.1.1,(true,((s0.1.2.2.1+(1:Int)),()))),(s0.2.1,(((s0.2.2.1++(s0.2.1.1.1::[]))++((List.getD s0.1.1 (Int.toNat s0.1.2.2.1) ((0:Int),((0:Int),([],()))))::[])),())))))))))) (gd (di s0.1.2.2.1 (List.length s0.1.1)) (gd (decide ((Int.toNat s0.1.2.2.1)<(List.length s0.1.1))) (gd ((Nat.ble ((List.length s0.2.2.1)+(List.length ((List.getD s0.1.1 (Int.toNat s0.1.2.2.1) ((0:Int),((0:Int),([],()))))::[]))) 9223372036854775807)&&(Nat.ble (((List.length s0.2.2.1)+(List.length ((List.getD s0.1.1 (Int.toNat s0.1.2.2.1) ((0:Int),((0:Int),([],()))))::[])))*(40:Nat)) (140737488355328:Nat))) (gd (dx (s0.1.2.2.1+(1:Int))) (some (.inl ((s0.1.1,(s0.1.2.1,((s0.1.2.2.1+(1:Int)),()))),(s0.2.1,((s0.2.2.1++((List.getD s0.1.1 (Int.toNat s0.1.2.2.1) ((0:Int),((0:Int),([],()))))::[])),())))))))))))) (gd (di s0.1.2.2.1 (List.length s0.1.1)) (gd (decide ((Int.toNat s0.1.2.2.1)<(List.length s0.1.1))) (gd ((Nat.ble ((List.length s0.2.2.1)+(List.length ((List.getD s0.1.1 (Int.toNat s0.1.2.2.1) ((0:Int),((0:Int),([],()))))::[]))) 9223372036854775807)&&(Nat.ble (((List.length s0.2.2.1)+(List.length ((List.getD s0.1.1 (Int.toNat s0.1.2.2.1) ((0:Int),((0:Int),([],()))))::[])))*(40:Nat)) (140737488355328:Nat))) (gd (dx (s0.1.2.2.1+(1:Int))) (some (.inl ((s0.1.1,(s0.1.2.1,((s0.1.2.2.1+(1:Int)),()))),(s0.2.1,((s0.2.2.1++((List.getD s0.1.1 (Int.toNat s0.1.2.2.1) ((0:Int),((0:Int),([],()))))::[])),())))))))))) (some (.inr (.inl ((s0.1.2.1,()),s0.2))))) bn ((x.1,(false,((0:Int),()))),((x.2,()),([],())))) (fun (y1:(((Bool×Unit)×(((Y1×Unit)×Unit)×((List Y1)×Unit))) ⊕ Empty))=>xs y1 (fun (y2:((Bool×Unit)×(((Y1×Unit)×Unit)×((List Y1)×Unit))))=>az (!y2.1.1) (gd ((Nat.ble ((List.length y2.2.2.1)+(List.length (y2.2.1.1.1::[]))) 9223372036854775807)&&(Nat.ble (((List.length y2.2.2.1)+(List.length (y2.2.1.1.1::[])))*(40:Nat)) (140737488355328:Nat))) (some ((y2.2.2.1++(y2.2.1.1.1::[])),()))) (some y2.2.2)) (fun (y3:Empty)=>xe y3)):=by kernel_rfl
def Uv (x:((List Y4)×Unit)):F_15 x =
 xb (b6 (S:=(((List Y4)×Y4)×(Unit×Unit))) (R:=((((List Y1)×Unit)×(Unit×Unit)) ⊕ Empty)) (fun (s0:(((List Y4)×Y4)×(Unit×Unit)))=>az (decide (s0.1.2.2.1<(((List.length s0.1.1):Nat):Int))) (xb (b6 (S:=(((List Y4)×((List Y1)×Y3))×(Unit×Unit))) (R:=((((List Y4)×Y4)×(Unit×Unit)) ⊕ Empty)) (fun (s1:(((List Y4)×((List Y1)×Y3))×(Unit×Unit)))=>gd (di s1.1.2.2.1 (List.length s1.1.1)) (gd (decide ((Int.toNat s1.1.2.2.1)<(List.length s1.1.1))) (az (decide (s1.1.2.2.2.1<(((List.length (List.getD s1.1.1 (Int.toNat s1.1.2.2.1) ([],((0:Int),()))).1):Nat):Int))) (gd (di s1.1.2.2.1 (List.length s1.1.1)) (gd (decide ((Int.toNat s1.1.2.2.1)<(List.length s1.1.1))) (gd (di s1.1.2.2.2.1 (List.length (List.getD s1.1.1 (Int.toNat s1.1.2.2.1) ([],((0:Int),()))).1)) (gd (decide ((Int.toNat s1.1.2.2.2.1)<(List.length (List.getD s1.1.1 (Int.toNat s1.1.2.2.1) ([],((0:Int),()))).1))) (xb (F_11 (s1.1.2.1,((List.getD (List.getD s1.1.1 (Int.toNat s1.1.2.2.1) ([],((0:Int),()))).1 (Int.toNat s1.1.2.2.2.1) ((0:Int),((0:Int),([],())))),()))) (fun (y2:((List Y1)×Unit))=>gd (dx (s1.1.2.2.2.1+(1:Int))) (some (.inl ((s1.1.1,(y2.1,(s1.1.2.2.1,((s1.1.2.2.2.1+(1:Int)),())))),((),())))))))))) (some (.inr (.inl ((s1.1.1,(s1.1.2.1,(s1.1.2.2.1,()))),((),())))))))) bn ((s0.1.1,(s0.1.2.1,(s0.1.2.2.1,((0:Int),())))),((),()))) (fun (y3:((((List Y4)×Y4)×(Unit×Unit)) ⊕ Empty))=>xs y3 (fun (y4:(((List Y4)×Y4)×(Unit×Unit)))=>gd (dx (y4.1.2.2.1+(1:Int))) (some (.inl ((y4.1.1,(y4.1.2.1,((y4.1.2.2.1+(1:Int)),()))),((),()))))) (fun (y5:Empty)=>xe y5))) (some (.inr (.inl ((s0.1.2.1,()),((),())))))) bn ((x.1,([],((0:Int),()))),((),()))) (fun (y6:((((List Y1)×Unit)×(Unit×Unit)) ⊕ Empty))=>xs y6 (fun (y7:(((List Y1)×Unit)×(Unit×Unit)))=>some y7.1) (fun (y8:Empty)=>xe y8)):=by kernel_rfl
end Go.Proofs.YtdbjakibneeeiaaGreatDoor.Ex
namespace Go.Proofs.YtdbjakibneeeiaaGreatDoor.Ex
open Go.RowKit Sx
def a0r (x:(Y2×((List Y1)×Unit))):a03 x =
 xb (Nf (x.1,())) (fun (y0:(Bool×Unit))=>az (!y0.1) (some (false,())) (xb (MK ((x.2.1,((0:Int),())),((0:Int),(((1:Int),((0:Int),((0:Int),(x.1.2.2.2.1,((0:Int),((0:Int),((0:Int),((0:Int),())))))))),())))) (fun (y1:(Bool×Unit))=>az (y1.1==true) (xb (a0v x.2) (fun (y2:(Int×Unit))=>some ((decide (y2.1≤x.1.2.2.1)),()))) (some (false,()))))):=by kernel_rfl
def a0B (x:((List Y1)×Unit)):a0v x =
 xb (a0i ((x.1,((0:Int),())),())) (fun (y0:(Int×Unit))=>some y0):=by kernel_rfl
def a0D (x:(Y4×Unit)):a0i x =
 xb (b6 (S:=((Int×((List Y1)×Y3))×(Unit×Unit))) (R:=(((Int×Unit)×(Unit×Unit)) ⊕ Empty)) (fun (s0:((Int×((List Y1)×Y3))×(Unit×Unit)))=>az (decide (s0.1.2.2.2.1<s0.1.2.2.1)) (gd (di s0.1.2.2.2.1 (List.length s0.1.2.1)) (gd (decide ((Int.toNat s0.1.2.2.2.1)<(List.length s0.1.2.1))) (xb (OK ((List.getD s0.1.2.1 (Int.toNat s0.1.2.2.2.1) ((0:Int),((0:Int),([],())))),())) (fun (y1:(Int×Unit))=>gd (dx (s0.1.1+y1.1)) (gd (dx (s0.1.2.2.2.1+(1:Int))) (some (.inl (((s0.1.1+y1.1),(s0.1.2.1,(s0.1.2.2.1,((s0.1.2.2.2.1+(1:Int)),())))),((),()))))))))) (some (.inr (.inl ((s0.1.1,()),((),())))))) bn (((0:Int),(x.1.1,((((List.length x.1.1):Nat):Int),((0:Int),())))),((),()))) (fun (y2:(((Int×Unit)×(Unit×Unit)) ⊕ Empty))=>xs y2 (fun (y3:((Int×Unit)×(Unit×Unit)))=>some y3.1) (fun (y4:Empty)=>xe y4)):=by kernel_rfl
def a0o (x:(Y15×Unit)):a0j x =
 xb (J8 (x.1.2.1.1,(x.1.2.2.1.2.2.2.1,()))) (fun (y0:((List Y0)×Unit))=>xb (a0b (x.1,(((0:Int),(((0:Int),((0:Int),((0:Int),((0:Int),((0:Int),(ByteArray.empty,())))))),(y0.1,((0:Int),())))),()))) (fun (y1:((List Y1)×(Y6×((List Y9)×Unit))))=>some y1)):=by kernel_rfl
def a0n (x:(Y15×(Y6×Unit))):a0b x =
 xb (uM x.1.2.1.1) (fun (y0:(List Y1))=>xb (b6 (S:=(Y3×(((Y6×Unit)×((Y6×Unit)×Unit))×((List Y1)×Unit)))) (R:=((Unit×(((Y6×Unit)×((Y6×Unit)×Unit))×((List Y1)×Unit))) ⊕ Empty)) (fun (s1:(Y3×(((Y6×Unit)×((Y6×Unit)×Unit))×((List Y1)×Unit))))=>az (decide (s1.1.2.1<s1.1.1)) (gd (di s1.1.2.1 (List.length s1.2.2.1)) (gd (decide ((Int.toNat s1.1.2.1)<(List.length s1.2.2.1))) (xb (uM (List.getD s1.2.2.1 (Int.toNat s1.1.2.1) ((0:Int),((0:Int),([],())))).2.2.1) (fun (y2:(List Y0))=>gd (di s1.1.2.1 (List.length s1.2.2.1)) (gd (decide ((Int.toNat s1.1.2.1)<(List.length s1.2.2.1))) (gd (dx (s1.1.2.1+(1:Int))) (some (.inl ((s1.1.1,((s1.1.2.1+(1:Int)),())),(s1.2.1,((List.set s1.2.2.1 (Int.toNat s1.1.2.1) ((List.getD s1.2.2.1 (Int.toNat s1.1.2.1) ((0:Int),((0:Int),([],())))).1,((List.getD s1.2.2.1 (Int.toNat s1.1.2.1) ((0:Int),((0:Int),([],())))).2.1,(y2,())))),()))))))))))) (some (.inr (.inl ((),s1.2))))) bn (((((List.length y0):Nat):Int),((0:Int),())),((x.2,((((0:Int),(((0:Int),((0:Int),((0:Int),((0:Int),((0:Int),(ByteArray.empty,())))))),([],((0:Int),())))),()),())),(y0,())))) (fun (y3:((Unit×(((Y6×Unit)×((Y6×Unit)×Unit))×((List Y1)×Unit))) ⊕ Empty))=>xs y3 (fun (y4:(Unit×(((Y6×Unit)×((Y6×Unit)×Unit))×((List Y1)×Unit))))=>some (y4.2.2.1,(y4.2.1.1.1,([],())))) (fun (y5:Empty)=>xe y5))):=by kernel_rfl
def a0u (x:(Y15×(Int×Unit))):a0h x =
 xb (a0b (x.1,((x.2.1,(((0:Int),((0:Int),((0:Int),((0:Int),((0:Int),(ByteArray.empty,())))))),([],((0:Int),())))),()))) (fun (y0:((List Y1)×(Y6×((List Y9)×Unit))))=>some y0):=by kernel_rfl
end Go.Proofs.YtdbjakibneeeiaaGreatDoor.Ex
namespace Go.Proofs.YtdbjakibneeeiaaGreatDoor.Ex
open Go.RowKit Sx
def a0w (x:(Y1×Unit)):OK x =
 xb (b6 (S:=((Int×((List Y0)×Y3))×(Unit×Unit))) (R:=(((Int×Unit)×(Unit×Unit)) ⊕ Empty)) (fun (s0:((Int×((List Y0)×Y3))×(Unit×Unit)))=>az (decide (s0.1.2.2.2.1<s0.1.2.2.1)) (gd (di s0.1.2.2.2.1 (List.length s0.1.2.1)) (gd (decide ((Int.toNat s0.1.2.2.2.1)<(List.length s0.1.2.1))) (xb (Pu ((List.getD s0.1.2.1 (Int.toNat s0.1.2.2.2.1) ((0:Int),((0:Int),((0:Int),((0:Int),((0:Int),(ByteArray.empty,()))))))),())) (fun (y1:(Int×Unit))=>gd (dx (s0.1.1+y1.1)) (gd (dx (s0.1.2.2.2.1+(1:Int))) (some (.inl (((s0.1.1+y1.1),(s0.1.2.1,(s0.1.2.2.1,((s0.1.2.2.2.1+(1:Int)),())))),((),()))))))))) (some (.inr (.inl ((s0.1.1,()),((),())))))) bn (((0:Int),(x.1.2.2.1,((((List.length x.1.2.2.1):Nat):Int),((0:Int),())))),((),()))) (fun (y2:(((Int×Unit)×(Unit×Unit)) ⊕ Empty))=>xs y2 (fun (y3:((Int×Unit)×(Unit×Unit)))=>some y3.1) (fun (y4:Empty)=>xe y4)):=by kernel_rfl
def a0q (x:(Y0×Unit)):Pu x =
 xb (Oo x) (fun (y0:(ByteArray×(Bool×Unit)))=>az (!y0.2.1) (some ((0:Int),())) (xb (NL ((((ByteArray.size y0.1):Nat):Int),())) (fun (y1:(Int×Unit))=>some y1))):=by kernel_rfl
def a0t (x:(Int×(Int×Unit))):PB x =
 az ((decide ((0:Int)≤x.1))==true) (some ((decide (x.1≤x.2.1)),())) (some (false,())):=by kernel_rfl
def a0l (x:(Int×Unit)):NL x =
 xb (PB (x.1,((400:Int),()))) (fun (y0:(Bool×Unit))=>az (!y0.1) (some ((0:Int),())) (gd (dx (x.1+(32:Int))) (gd (dx ((x.1+(32:Int)) - (1:Int))) (some ((if Go.IntKind.i64.wrap (((x.1+(32:Int)) - (1:Int)).tdiv (32:Int))>(1:Int) then Go.IntKind.i64.wrap (((x.1+(32:Int)) - (1:Int)).tdiv (32:Int)) else (1:Int)),()))))):=by kernel_rfl
def a0E (x:(Int×Unit)):Zf x =
 az ((decide (x.1<(0:Int)))==false) (az (decide (x.1>(400:Int))) (some ((0:Int),())) (gd (dx (x.1+(31:Int))) (some ((if (1:Int)>Go.IntKind.i64.wrap ((x.1+(31:Int)).tdiv (32:Int)) then (1:Int) else Go.IntKind.i64.wrap ((x.1+(31:Int)).tdiv (32:Int))),())))) (some ((0:Int),())):=by kernel_rfl
end Go.Proofs.YtdbjakibneeeiaaGreatDoor.Ex
namespace Go.Proofs.YtdbjakibneeeiaaGreatDoor.Ex
open Go.RowKit Sx
def aa.of {R:Type} {Q:R→Prop} {o o':Option R} (h:o=o') (k:aa o' Q):aa o Q:=h▸k
def zT {b:Bool} (h:(!b)=false):b=true:=by cases b with | true=>rfl | false=>cases h
def bE {A:Type} {L:List A} {d:A} {k:Nat} (h:k<L.length):L.getD k d=L[k]:=by simp [List.getD,List.getElem?_eq_getElem h]
def lg {n:Nat} (h:n≤9223372036854775807):n<bn:=by unfold bn;omega
def bS {x:Int} (h : -9223372036854775808≤x) (k:x≤9223372036854775807):dx x=true:=kr.2 ⟨h,k⟩
def aU {k n:Nat} (h:k<n) (hn:n≤9223372036854775807):dx ((k:Int)+1)=true:=bS (by omega) (by omega)
def b9 {n:Nat} {k:Nat} (h:k<n):di (k:Int) n=true:=bC.2 ⟨by omega,by omega⟩
def cr {n:Nat} {k:Nat} (h:k<n):decide ((k:Int)<(n:Int))=true:=decide_eq_true (by omega)
def cq {n:Nat}:decide ((n:Int)<(n:Int))=false:=decide_eq_false (by omega)
def bf {n:Nat} {k:Nat} (h:k<n):decide (Int.toNat (k:Int)<n)=true:=decide_eq_true (by omega)
def aa.idx {S R:Type} {Q:R→Prop} {step:S→Option (S ⊕ R)} (mk:Nat→S) (I:Nat→Prop) (n:Nat) (hn:n≤9223372036854775807) (h0:I 0) (h:∀k,k<n→I k→aa (step (mk k)) fun x=>match x with | .inl s=>s=mk (k+1)∧I (k+1) | .inr r=>Q r) (he:I n→aa (step (mk n)) fun x=>match x with | .inl _=>False | .inr r=>Q r) {s:S} (hs:s=mk 0) :
  aa (b6 step bn s) Q:=by
 have key:∀j k,k+j=n→I k→∀m,j<m→aa (b6 step m (mk k)) Q:=by
  intro j
  induction j with
  | zero=>
   intro k hk hI m hm
   obtain rfl:k=n:=by omega
   obtain ⟨x,e,hx⟩:=he hI
   obtain ⟨m,rfl⟩:∃m',m=m'+1:=⟨m - 1,by omega⟩
   cases x with
   | inl s=>exact hx.elim
   | inr r=>exact ⟨r,by rw [dO,e],hx⟩
  | succ j ih=>
   intro k hk hI m hm
   obtain ⟨x,e,hx⟩:=h k (by omega) hI
   obtain ⟨m,rfl⟩:∃m',m=m'+1:=⟨m - 1,by omega⟩
   cases x with
   | inl s=>
    obtain ⟨rfl,hI'⟩:=hx
    obtain ⟨r,e2,hr⟩:=ih (k+1) (by omega) hI' m (by omega)
    exact ⟨r,by rw [dO,e];exact e2,hr⟩
   | inr r=>exact ⟨r,by rw [dO,e],hx⟩
 subst hs
 exact key n 0 (by omega) h0 bn (lg hn)
def aa.all {S R A:Type} {step:S→Option (S ⊕ R)} {L:List A} {d:A} (hL:L.length≤9223372036854775807) (mk:Nat→S) (no out:R) (test:A→Option (af [.bool])) (P:A→Prop)
  (hstep:∀k,k<L.length→step (mk k)=xb (test (L.getD k d)) fun y=>az (!y.1) (some (.inr no)) (some (.inl (mk (k+1))))) (hend:step (mk L.length)=some (.inr out))
  (ht:∀a∈L,aa (test a) fun y=>y.1=true→P a) {s:S} (hs:s=mk 0):aa (b6 step bn s) fun r=>r=no∨(r=out∧∀a∈L,P a):=by
 refine aa.idx mk (fun k=>∀a∈L.take k,P a) L.length hL (by simp) (fun k hk hI=>?_) (fun hI=>?_) hs
 ·rw [hstep k hk]
  have hm:L.getD k d∈L:=by rw [bE hk];exact List.getElem_mem hk
  obtain ⟨y,e,hy⟩:=ht _ hm
  rw [e]
  obtain ⟨b,u⟩:=y
  cases b with
  | false=>exact ⟨_,rfl,.inl rfl⟩
  | true=>
   refine ⟨_,rfl,rfl,fun a ha=>?_⟩
   rw [List.take_succ_eq_append_getElem hk,List.mem_append] at ha
   rcases ha with ha | ha
   ·exact hI a ha
   ·rw [List.mem_singleton] at ha
    subst ha
    have:=hy rfl
    rwa [bE hk] at this
 ·rw [hend]
  refine ⟨_,rfl,.inr ⟨rfl,fun a ha=>hI a (by simpa using ha)⟩⟩
def Pb (L:List xu) (most:Int) (hL:L.length≤9223372036854775807):aa (Mu (L,most,())) fun r=>r.1=true→(∀t∈L,ByteArray.size t.2.2.2.2.2.1≤500)∧(L.length:Int)≤most:=by
 refine aa.of (WM (L,most,())) ?_
 refine aa.xb (aa.all (L:=L) (d:=((0,0,0,0,0,ByteArray.empty,()):xu)) hL (fun k=>((L,most,(k:Int),()),(),())) (.inl ((false,()),(),())) (.inr (.inl ((L,most,()),(),()))) (fun t=>OI (t,())) (fun t=>ByteArray.size t.2.2.2.2.2.1≤500) (fun k hk=>?_) ?_ (fun t ht=>?_) rfl) (fun y hy=>?_)
 ·simp only [cr hk,sR,b9 hk,wH,bf hk,aU hk hL,Int.toNat_natCast,decide_eq_true hk,Int.natCast_add,Int.natCast_one]
  rfl
 ·simp only [cq,pq]
 ·refine aa.of (XS (t,())) ?_
  refine ⟨_,rfl,fun h=>?_⟩
  exact Int.ofNat_le.1 (of_decide_eq_true h)
 ·rcases hy with rfl | ⟨rfl,h⟩
  ·exact ⟨_,rfl,fun h=>by cases h⟩
  ·exact ⟨_,rfl,fun h2=>⟨h,of_decide_eq_true h2⟩⟩
def Gc (a:dc):Prop:=List.length a.2.2.1≤20∧∀t:xu,t∈a.2.2.1→ByteArray.size t.2.2.2.2.2.1≤500
def Iy (c:cQ):Prop:=List.length c.1≤20∧∀a:dc,a∈c.1→Gc a
def Oa (L:List dc) (most:Int) (hL:L.length≤9223372036854775807) (hA:∀a∈L,List.length a.2.2.1≤9223372036854775807):aa (Mg (L,most,())) fun r=>r.1=true→(∀a∈L,Gc a)∧(L.length:Int)≤most:=by
 refine aa.of (WZ (L,most,())) ?_
 refine aa.xb (aa.all (L:=L) (d:=((0,0,[],()):dc)) hL (fun k=>((L,most,(k:Int),()),(),())) (.inl ((false,()),(),())) (.inr (.inl ((L,most,()),(),()))) (fun a=>Mu (a.2.2.1,(20:Int),())) Gc (fun k hk=>?_) ?_ (fun a ha=>?_) rfl) (fun y hy=>?_)
 ·simp only [cr hk,sR,b9 hk,wH,bf hk,aU hk hL,Int.toNat_natCast,decide_eq_true hk,Int.natCast_add,Int.natCast_one]
  rfl
 ·simp only [cq,pq]
 ·refine (Pb _ _ (hA a ha)).mono fun r hr h=>?_
  obtain ⟨h1,h2⟩:=hr h
  exact ⟨Int.ofNat_le.1 h2,fun t ht=>h1 t ht⟩
 ·rcases hy with rfl | ⟨rfl,h⟩
  ·exact ⟨_,rfl,fun h=>by cases h⟩
  ·exact ⟨_,rfl,fun h2=>⟨h,of_decide_eq_true h2⟩⟩
def Az (L:List cQ):Prop:=L.length≤9223372036854775807∧∀c∈L,List.length c.1≤9223372036854775807∧∀a:dc,a∈c.1→List.length a.2.2.1≤9223372036854775807
def Q0 (s:P_2):Prop:=List.length s.2.1≤10∧List.length s.2.2.2.1≤10∧∀c:cQ,c∈s.2.2.2.1→Iy c
def Cc (s:P_2) (hs:Az s.2.2.2.1):aa (Me (s,())) fun r=>r.1=true→Q0 s:=by
 refine aa.of (Yd (s,())) ?_
 refine aa.xb (aa.all (L:=s.2.2.2.1) (d:=(([],0,()):cQ)) hs.1 (fun k=>(((k:Int),()),((s,()),()),())) (.inl ((false,()),(),())) (.inr (.inl ((),((s,()),()),()))) (fun c=>Mg (c.1,(20:Int),())) Iy (fun k hk=>?_) ?_ (fun c hc=>?_) rfl) (fun y hy=>?_)
 ·simp only [cr hk,sR,b9 hk,wH,bf hk,aU hk hs.1,Int.toNat_natCast,decide_eq_true hk,Int.natCast_add,Int.natCast_one]
  rfl
 ·simp only [cq,pq]
 ·refine (Oa _ _ (hs.2 c hc).1 (hs.2 c hc).2).mono fun r hr h=>?_
  obtain ⟨h1,h2⟩:=hr h
  exact ⟨Int.ofNat_le.1 h2,fun a ha=>h1 a ha⟩
 ·rcases hy with rfl | ⟨rfl,h⟩
  ·exact ⟨_,rfl,fun h=>by cases h⟩
  ·refine aa.br (fun h1=>?_) (fun _=>⟨_,rfl,fun h=>by cases h⟩)
   refine ⟨_,rfl,fun h2=>⟨Int.ofNat_le.1 (of_decide_eq_true h2),Int.ofNat_le.1 (of_decide_eq_true (by simpa using h1)),h⟩⟩
end Go.Proofs.YtdbjakibneeeiaaGreatDoor.Ex
namespace Go.Proofs.YtdbjakibneeeiaaGreatDoor.Ex
open Go.RowKit Sx
def aY {α R:Type} {o:Option α} {v:α} {k:α→Option R} (h:o=some v):xb o k=k v:=by rw [h];rfl
def aT {R:Type} {c:Bool} {o:Option R} (h:c=true):gd c o=o:=by rw [h];rfl
def aZ {R:Type} {c:Bool} {a b:Option R} (h:c=true):az c a b=a:=by rw [h];rfl
def aN {R:Type} {c:Bool} {a b:Option R} (h:c=false):az c a b=b:=by rw [h];rfl
def EH {R:Type} [Same R] {x y:Option R} {a:R} (h:x=some a) (h2:y=some a) (h3:Same.eq a a=true):both x y=some a:=by
 rw [h,h2]
 show gd (Same.eq a a) (some a)=some a
 rw [h3];rfl
def aa.cnt {S R:Type} {Q:R→Prop} {step:S→Option (S ⊕ R)} (I:Nat→S→Prop) (n:Nat) (hn:n≤9223372036854775807) (h:∀k s,k<n→I k s→aa (step s) fun x=>match x with | .inl s=>I (k+1) s | .inr r=>Q r) (he:∀s,I n s→aa (step s) fun x=>match x with | .inl _=>False | .inr r=>Q r) {s:S} (hs:I 0 s) :
  aa (b6 step bn s) Q:=by
 have key:∀j k s,k+j=n→I k s→∀m,j<m→aa (b6 step m s) Q:=by
  intro j
  induction j with
  | zero=>
   intro k s hk hI m hm
   obtain rfl:k=n:=by omega
   obtain ⟨x,e,hx⟩:=he s hI
   obtain ⟨m,rfl⟩:∃m',m=m'+1:=⟨m - 1,by omega⟩
   cases x with
   | inl s=>exact hx.elim
   | inr r=>exact ⟨r,by rw [dO,e],hx⟩
  | succ j ih=>
   intro k s hk hI m hm
   obtain ⟨x,e,hx⟩:=h k s (by omega) hI
   obtain ⟨m,rfl⟩:∃m',m=m'+1:=⟨m - 1,by omega⟩
   cases x with
   | inl s'=>
    obtain ⟨r,e2,hr⟩:=ih (k+1) s' (by omega) hx m (by omega)
    exact ⟨r,by rw [dO,e];exact e2,hr⟩
   | inr r=>exact ⟨r,by rw [dO,e],hx⟩
 exact key n 0 s (by omega) hs bn (lg hn)
mutual
def xQ:Sh→Bool
 | .num _=>false
 | .flat l=>lC l
 | .row e=>xQ e
 | .int=>true
 | .bool=>true
 | .str=>true
termination_by structural s=>s
def lC:List Sh→Bool
 | []=>true
 | s::l=>xQ s&&lC l
termination_by structural l=>l
end
def zw {α:Type} {f:α→α→Bool} (hf:∀x,f x x=true):∀l:List α,ME f l l=true
 | []=>rfl
 | x::l=>by
  show (f x x&&ME f l l)=true
  rw [hf,zw hf l];rfl
def F4 (x:ByteArray):Ql x x=true:=decide_eq_true rfl
mutual
def Den.dK:∀{s:Sh} (h:xQ s=true) (x:Den s),Den.lM s x x=true
 | .int,_,x=>beq_self_eq_true (α:=Int) x
 | .bool,_,x=>beq_self_eq_true (α:=Bool) x
 | .str,_,x=>F4 x
 | .num _,h,_=>by cases h
 | .flat l,h,x=>af.dK (l:=l) h x
 | .row e,h,x=>zw (f:=Den.lM e) (fun y=>Den.dK (s:=e) h y) x
def af.dK:∀{l:List Sh} (h:lC l=true) (x:af l),af.lM l x x=true
 | [],_,_=>rfl
 | s::l,h,(a,x)=>by
  have h:(xQ s&&lC l)=true:=h
  rw [Bool.and_eq_true] at h
  show (Den.lM s a a&&af.lM l x x)=true
  rw [Den.dK h.1,af.dK h.2];rfl
end
def bq.dK:∀{l:List (List Sh)} (h:l.all lC=true) (x:bq l),bq.lM l x x=true
 | [],_,_=>rfl
 | s::l,h,(a,x)=>by
  rw [List.all_cons,Bool.and_eq_true] at h
  show (af.lM s a a&&bq.lM l x x)=true
  rw [af.dK h.1,bq.dK h.2];rfl
def wU {a:List Sh} {b:List (List Sh)} {c:List Sh} (ha:lC a=true) (hb:b.all lC=true) (hc:lC c=true) (x:af a×(bq b×af c)):@Same.eq (af a×(bq b×af c)) inferInstance x x=true:=by
 show (af.lM a x.1 x.1&&(bq.lM b x.2.1 x.2.1&&af.lM c x.2.2 x.2.2))=true
 rw [af.dK ha,bq.dK hb,af.dK hc];rfl
def oS (L:List Int) (i:Int):Bool:=decide (0≤i)&&decide (i<(L.length:Int))
def dA {L:List Int} {i:Int}:oS L i=true↔0≤i∧i<(L.length:Int):=by
 unfold oS;rw [Bool.and_eq_true,decide_eq_true_iff,decide_eq_true_iff]
def AY (L:List Int) (i:Int):Ku (L,i,())=some (oS L i,()):=by
 refine (Xu (L,i,())).trans ?_
 show az (decide ((0:Int)≤i)==true) (some (decide (i<(L.length:Int)),())) (some (false,()))=_
 unfold oS
 cases decide ((0:Int)≤i) <;> rfl
def bT (L:List Int) (i:Int):Bool:=oS L i&&(L.getD i.toNat 0==0)
def rI (L:List Int) (i:Int):J7 (L,i,())=some (bT L i,()):=by
 refine (Xx (L,i,())).trans ?_
 refine (aY (AY L i)).trans ?_
 cases h:oS L i with
 | false=>unfold bT;rw [h];rfl
 | true=>
  obtain ⟨h1,h2⟩:=dA.1 h
  unfold bT;rw [h]
  exact (aT (bC.2 ⟨h1,h2⟩)).trans (aT (decide_eq_true (by show i.toNat<L.length;omega)))
def lW (w:Int):Jx (w,())=some (decide (w≥1),()):=Ya (w,())
def aM (L:List Int) (i w:Int):Bool:=decide (w≥1)&&(L.getD i.toNat 0==w)
def sO (L:List Int) (i w:Int) (h:0≤i) (h2:i<(L.length:Int)):Ld (L,i,w,())=some (aM L i w,()):=by
 refine (XT (L,i,w,())).trans ?_
 refine (aY (lW w)).trans ?_
 unfold aM
 cases h3:decide (w≥1) with
 | false=>rfl
 | true=>exact (aT (bC.2 ⟨h,h2⟩)).trans (aT (decide_eq_true (by show i.toNat<L.length;omega)))
def Gd (L:List Int) (i w:Int) (h:0≤i) (h2:i<(L.length:Int)):FQ (L,i,w,())=some (!aM L i w,()):=
 (Xo (L,i,w,())).trans (aY (sO L i w h h2))
def BX (L:List Int) (i w:Int) (h:0≤i) (h2:i<(L.length:Int)) (hL:L.length≤1000000):Md (L,i,w,())=some (L.set i.toNat w,()):=by
 refine (Yh (L,i,w,())).trans ?_
 refine (aY (iB hL)).trans ?_
 exact (aT (bC.2 ⟨h,h2⟩)).trans (aT (decide_eq_true (by show i.toNat<L.length;omega)))
def GQ (L:List Int) (i w:Int) (h:bT L i=true) (hw:1≤w) (hL:L.length≤1000000):Ew (L,i,w,())=some (L.set i.toNat w,(0:Int),()):=by
 have hh:=(Bool.and_eq_true_iff.1 h).1
 obtain ⟨h1,h2⟩:=dA.1 hh
 refine (Yi (L,i,w,())).trans ?_
 refine (aY (AY L i)).trans ?_
 refine (aZ (by show ((!oS L i)==false)=true;rw [hh];rfl)).trans ?_
 refine (aY (lW w)).trans ?_
 refine (aN (by show (!decide (w≥1))=false;rw [decide_eq_true (by omega)];rfl)).trans ?_
 refine (aY (rI L i)).trans ?_
 refine (aN (by show (!bT L i)=false;rw [h];rfl)).trans ?_
 exact aY (BX L i w h1 h2 hL)
def I3 (L:List Int) (i w:Int) (h1:0≤i) (h2:i<(L.length:Int)) (h:aM L i w=true) (hL:L.length≤1000000):EK (L,i,w,())=some (L.set i.toNat 0,(0:Int),()):=by
 have hw:decide (w≥1)=true:=(Bool.and_eq_true_iff.1 h).1
 refine (XO (L,i,w,())).trans ?_
 refine (aY (AY L i)).trans ?_
 refine (aZ (by show ((!oS L i)==false)=true;rw [dA.2 ⟨h1,h2⟩];rfl)).trans ?_
 refine (aY (lW w)).trans ?_
 refine (aN (by show (!decide (w≥1))=false;rw [hw];rfl)).trans ?_
 refine (aY (sO L i w h1 h2)).trans ?_
 refine (aN (by show (!aM L i w)=false;rw [h];rfl)).trans ?_
 exact aY (BX L i 0 h1 h2 hL)
def kX (p:Nat→Bool) (n i j:Nat):Prop:=i≤j∧j≤n∧(j<n→p j=true)∧∀k,i≤k→k<j→p k=false
def aa.Oy {S R:Type} {Q:R→Prop} {step:S→Option (S ⊕ R)} (mk:Nat→S) (I:Nat→Prop) (i n:Nat) (hi:i≤n) (hn:n≤9223372036854775807) (h0:I i) (h:∀k,i≤k→k<n→I k→aa (step (mk k)) fun x=>match x with | .inl s=>s=mk (k+1)∧I (k+1) | .inr r=>Q r) (he:I n→aa (step (mk n)) fun x=>match x with | .inl _=>False | .inr r=>Q r) {s:S} (hs:s=mk i) :
  aa (b6 step bn s) Q:=by
 refine aa.cnt (fun k s=>s=mk (i+k)∧I (i+k)) (n - i) (by omega) (fun k s hk hI=>?_) (fun s hI=>?_) ⟨hs,h0⟩
 ·obtain ⟨rfl,hI⟩:=hI
  refine (h (i+k) (by omega) (by omega) hI).mono fun x hx=>?_
  cases x with
  | inl s=>exact hx
  | inr r=>exact hx
 ·obtain ⟨rfl,hI⟩:=hI
  have e:i+(n - i)=n:=by omega
  rw [e] at hI ⊢
  exact he hI
def sD (L:List Int) (i:Nat) (w:Int) (hi:i≤L.length) (hL:L.length≤1000000):aa (H7 (L,(i:Int),w,Value.func (.func 95) #[] #[],())) fun r=>∃j:Nat,r.1=(j:Int)∧kX (fun k=>aM L (k:Int) w) L.length i j:=by
 refine aa.of (Xp L (i:Int) w) ?_
 refine aa.xb (aa.Oy (Q:=fun r=>match r with | .inl y=>∃j:Nat,y.1.1=(j:Int)∧kX (fun k=>aM L (k:Int) w) L.length i j | .inr (.inl y)=>y.1.1=L∧kX (fun k=>aM L (k:Int) w) L.length i L.length | .inr (.inr y)=>False) (fun k=>((L,w,(Value.func (.func 95) #[] #[]),(k:Int),()),(),())) (fun j=>∀k,i≤k→k<j→aM L (k:Int) w=false) i L.length hi (by omega) (fun k h1 h2=>by omega) (fun k h1 hk hI=>?_) (fun hI=>?_) rfl) (fun y hy=>?_)
 ·refine aa.of (vi L w (k:Int)) ?_
  refine aa.br (fun _=>?_) (fun h=>absurd (cr hk) (by rw [h];simp))
  refine aa.gj (sO L (k:Int) w (by omega) (by omega)) ?_
  refine aa.br (fun h=>⟨_,rfl,k,rfl,h1,by omega,fun _=>h,hI⟩) (fun h=>?_)
  refine aa.gd (aU hk (by omega)) ⟨_,rfl,rfl,fun m h2 h3=>?_⟩
  by_cases e:m=k
  ·subst e;exact h
  ·exact hI m h2 (by omega)
 ·refine aa.of (vi L w (L.length:Int)) ?_
  refine aa.br (fun h=>absurd cq (by rw [h];simp)) (fun _=>⟨_,rfl,rfl,hi,Nat.le_refl _,fun h=>absurd h (Nat.lt_irrefl _),hI⟩)
 ·match y,hy with
  | .inl y,hy=>exact ⟨_,rfl,hy⟩
  | .inr (.inl y),⟨e,hy⟩=>exact ⟨_,rfl,L.length,by show ((List.length y.1.1:Nat):Int)=_;rw [e],hy⟩
def Ad (L:List Int) (i:Nat) (w:Int) (hi:i≤L.length) (hL:L.length≤1000000):aa (H7 (L,(i:Int),w,Value.func (.func 93) #[] #[],())) fun r=>∃j:Nat,r.1=(j:Int)∧kX (fun k=>!aM L (k:Int) w) L.length i j:=by
 refine aa.of (Xz L (i:Int) w) ?_
 refine aa.xb (aa.Oy (Q:=fun r=>match r with | .inl y=>∃j:Nat,y.1.1=(j:Int)∧kX (fun k=>!aM L (k:Int) w) L.length i j | .inr (.inl y)=>y.1.1=L∧kX (fun k=>!aM L (k:Int) w) L.length i L.length | .inr (.inr y)=>False) (fun k=>((L,w,(Value.func (.func 93) #[] #[]),(k:Int),()),(),())) (fun j=>∀k,i≤k→k<j→(!aM L (k:Int) w)=false) i L.length hi (by omega) (fun k h1 h2=>by omega) (fun k h1 hk hI=>?_) (fun hI=>?_) rfl) (fun y hy=>?_)
 ·refine aa.of (vt L w (k:Int)) ?_
  refine aa.br (fun _=>?_) (fun h=>absurd (cr hk) (by rw [h];simp))
  refine aa.gj (Gd L (k:Int) w (by omega) (by omega)) ?_
  refine aa.br (fun h=>⟨_,rfl,k,rfl,h1,by omega,fun _=>h,hI⟩) (fun h=>?_)
  refine aa.gd (aU hk (by omega)) ⟨_,rfl,rfl,fun m h2 h3=>?_⟩
  by_cases e:m=k
  ·subst e;exact h
  ·exact hI m h2 (by omega)
 ·refine aa.of (vt L w (L.length:Int)) ?_
  refine aa.br (fun h=>absurd cq (by rw [h];simp)) (fun _=>⟨_,rfl,rfl,hi,Nat.le_refl _,fun h=>absurd h (Nat.lt_irrefl _),hI⟩)
 ·match y,hy with
  | .inl y,hy=>exact ⟨_,rfl,hy⟩
  | .inr (.inl y),⟨e,hy⟩=>exact ⟨_,rfl,L.length,by show ((List.length y.1.1:Nat):Int)=_;rw [e],hy⟩
def E9 (L:List Int) (w:Int) (hL:L.length≤1000000):aa (EV (L,w,())) fun r=>∃j:Nat,r.1=(j:Int)∧kX (fun k=>!aM L (k:Int) w) L.length 0 j:=by
 refine aa.of (Xq (L,w,())) ?_
 exact aa.xb (Ad L 0 w (Nat.zero_le _) hL) fun y hy=>⟨_,rfl,hy⟩
def HF (L:List Int) (w:Int) (hL:L.length≤1000000):aa (Gl (L,w,())) fun r:List Int×Unit=>List.length r.1≤L.length∧∀x:Int,x∈r.1↔∃k:Nat,x=(k:Int)∧k<L.length∧aM L (k:Int) w=true:=by
 refine aa.of (X7 (L,w,())) ?_
 refine aa.xb (sD L 0 w (Nat.zero_le _) hL) fun y hy=>?_
 obtain ⟨j0,e0,hj0⟩:=hy
 obtain ⟨y,u⟩:=y
 have e0:y=(j0:Int):=e0
 subst e0
 refine aa.xb (aa.loop (Q:=fun r:(Unit×(Unit×((List Int)×Unit))) ⊕ Empty=>match r with | .inl y=>List.length y.2.2.1≤L.length∧∀x:Int,x∈y.2.2.1↔∃k:Nat,x=(k:Int)∧k<L.length∧aM L (k:Int) w=true | .inr y=>False)
  (fun s=>∃(j:Nat) (A:List Int),s=((L,w,(j:Int),()),(),A,())∧j≤L.length∧(j<L.length→aM L (j:Int) w=true)∧A.length≤j∧∀x:Int,x∈A↔∃k:Nat,x=(k:Int)∧k<j∧aM L (k:Int) w=true)
  (fun s=>L.length - s.1.2.2.1.toNat) (fun s hs=>?_) ⟨j0,[],rfl,hj0.2.1,hj0.2.2.1,Nat.zero_le _,fun x=>⟨fun h=>(by cases h),fun ⟨k,_,h2,h3⟩=>by have:aM L (k:Int) w=false:=hj0.2.2.2 k (Nat.zero_le _) h2;rw [h3] at this;cases this⟩⟩ ?_) (fun y hy=>?_)
 ·obtain ⟨j,A,rfl,hj,hp,hA,hm⟩:=hs
  refine aa.br (fun h=>?_) (fun h=>?_)
  ·have hk:j<L.length:=by have:=of_decide_eq_true h;show j<L.length;exact Int.ofNat_lt.1 this
   refine aa.gd ?_ (aa.gd (aU hk (by omega)) ?_)
   ·show (Nat.ble (A.length+1) 9223372036854775807&&Nat.ble ((A.length+1)*8) 140737488355328)=true
    rw [Bool.and_eq_true,Nat.ble_eq,Nat.ble_eq];omega
   refine aa.xb (sD L (j+1) w hk hL) fun z hz=>?_
   obtain ⟨j2,e2,hj2⟩:=hz
   obtain ⟨z,u2⟩:=z
   have e2:z=(j2:Int):=e2
   subst e2
   refine ⟨_,rfl,⟨j2,A++[(j:Int)],rfl,hj2.2.1,hj2.2.2.1,?_,fun x=>?_⟩,?_⟩
   ·rw [List.length_append];have:=hj2.1;simp only [List.length_singleton];omega
   ·rw [List.mem_append,List.mem_singleton,hm x]
    constructor
    ·rintro (⟨k,h1,h2,h3⟩ | rfl)
     ·exact ⟨k,h1,by have:=hj2.1;omega,h3⟩
     ·exact ⟨j,rfl,by have:=hj2.1;omega,hp hk⟩
    ·rintro ⟨k,h1,h2,h3⟩
     by_cases c:k<j
     ·exact .inl ⟨k,h1,c,h3⟩
     ·by_cases c2:k=j
      ·subst c2;exact .inr h1
      ·have:aM L (k:Int) w=false:=hj2.2.2.2 k (by omega) h2
       rw [h3] at this;cases this
   ·show L.length - (j2:Int).toNat<L.length - (j:Int).toNat
    have:=hj2.1
    simp only [Int.toNat_natCast];omega
  ·have hk:¬ j<L.length:=fun c=>by have:=of_decide_eq_false h;exact this (Int.ofNat_lt.2 c)
   obtain rfl:j=L.length:=by omega
   exact ⟨_,rfl,by show List.length A≤_;omega,hm⟩
 ·show L.length - (j0:Int).toNat<bn
  exact lg (by omega)
 ·match y,hy with
  | .inl y,hy=>exact ⟨_,rfl,hy⟩
def yH (L:List Int) (x:Int) (hL:L.length≤1000000):aa (DT (L,x,())) fun r:Bool×Unit=>(r.1=true↔x∈L):=by
 refine aa.of (XV (L,x,())) ?_
 have key:aa (MN (L,x,())) fun r:Int×Unit=>(r.1≥(0:Int)↔x∈L):=by
  refine aa.of (XU (L,x,())) ?_
  refine aa.xb (aa.idx (Q:=fun r=>match r with | .inl y=>(y.1.1≥(0:Int)↔x∈L) | .inr (.inl y)=>¬ x∈L | .inr (.inr y)=>False) (fun k=>((L,x,(L.length:Int),(k:Int),()),(),())) (fun j=>∀k,(h:k<L.length)→k<j→x≠L[k]) L.length (by omega) (fun k h1 h2=>by omega) (fun k hk hI=>?_) (fun hI=>?_) rfl) (fun y hy=>?_)
  ·refine aa.br (fun _=>?_) (fun h=>absurd (cr hk) (by rw [h];simp))
   refine aa.gd (b9 hk) (aa.gd (bf hk) ?_)
   have eg:L.getD (Int.toNat (k:Int)) 0=L[k]:=by rw [Int.toNat_natCast];exact bE hk
   refine aa.br (fun h=>?_) (fun h=>?_)
   ·have h:x=L.getD (Int.toNat (k:Int)) 0:=eq_of_beq (α:=Int) h
    refine ⟨_,rfl,⟨fun _=>?_,fun _=>Int.natCast_nonneg k⟩⟩
    rw [h,eg];exact List.getElem_mem hk
   ·have h:x≠L.getD (Int.toNat (k:Int)) 0:=ne_of_beq_false (α:=Int) h
    refine aa.gd (aU hk (by omega)) ⟨_,rfl,rfl,fun m h1 h2=>?_⟩
    by_cases e:m=k
    ·subst e;rw [← eg];exact h
    ·exact hI m h1 (by omega)
  ·refine aa.br (fun h=>absurd cq (by rw [h];simp)) (fun _=>⟨_,rfl,fun hm=>?_⟩)
   obtain ⟨k,hk,e⟩:=List.getElem_of_mem hm
   exact hI k hk hk e.symm
  ·match y,hy with
   | .inl y,hy=>exact ⟨_,rfl,hy⟩
   | .inr (.inl y),hy=>exact ⟨_,rfl,⟨fun h=>absurd h (by decide),fun h=>absurd h hy⟩⟩
 refine aa.xb key fun y hy=>⟨_,rfl,?_⟩
 exact decide_eq_true_iff.trans hy
end Go.Proofs.YtdbjakibneeeiaaGreatDoor.Ex
namespace Go.Proofs.YtdbjakibneeeiaaGreatDoor.Ex
open Go.RowKit Sx
def H9 (L:List cQ):Prop:=L.length≤1000000∧∀c∈L,List.length c.1≤1000000∧∀a:dc,a∈c.1→List.length a.2.2.1≤1000000
def kF (L:List cQ) (h:H9 L):Mq (L,())=some (L,()):=by
 refine aa.of_eq (Q:=fun _=>True) (aa.of (Xk (L,())) ?_)
 refine aa.gj (iB h.1) ?_
 have hL:L.length≤9223372036854775807:=Nat.le_trans h.1 (by decide)
 refine aa.xb (aa.idx (Q:=fun r=>match r with | .inl y=>y.2.2.1=L | .inr y=>False) (fun k=>(((L.length:Int),(k:Int),()),(),L,())) (fun _=>True) L.length hL trivial (fun k hk _=>?_) (fun _=>?_) rfl) (fun y hy=>?_)
 ·have eg:L.getD (Int.toNat (k:Int)) ([],(0:Int),())=L[k]:=by rw [Int.toNat_natCast];exact bE hk
  have hm:L[k]∈L:=List.getElem_mem hk
  refine aa.br (fun _=>?_) (fun h=>absurd (cr hk) (by rw [h];simp))
  refine aa.gd (b9 hk) (aa.gd (bf hk) ?_)
  have e1:uM (L.getD (Int.toNat (k:Int)) ([],(0:Int),())).1=some L[k].1:=by rw [eg];exact iB (h.2 _ hm).1
  refine aa.gj e1 ?_
  have hA:List.length L[k].1≤9223372036854775807:=Nat.le_trans (h.2 _ hm).1 (by decide)
  refine aa.xb (aa.idx (Q:=fun r=>match r with | .inl y=>y=(((k:Int),(L.length:Int),(k:Int),()),(),L,L[k].1,()) | .inr y=>False) (fun i=>(((k:Int),(L.length:Int),(k:Int),((List.length L[k].1:Nat):Int),(i:Int),()),(),L,L[k].1,())) (fun _=>True) (List.length L[k].1) hA trivial (fun i hi _=>?_) (fun _=>?_) rfl) (fun y hy=>?_)
  ·have eg2:(L[k].1:List dc).getD (Int.toNat (i:Int)) ((0:Int),(0:Int),[],())=(L[k].1:List dc)[i]:=by rw [Int.toNat_natCast];exact bE hi
   have hm2:(L[k].1:List dc)[i]∈(L[k].1:List dc):=List.getElem_mem hi
   refine aa.br (fun _=>?_) (fun h=>absurd (cr hi) (by rw [h];simp))
   refine aa.gd (b9 hi) (aa.gd (bf hi) ?_)
   have e2:uM ((L[k].1:List dc).getD (Int.toNat (i:Int)) ((0:Int),(0:Int),[],())).2.2.1=some ((L[k].1:List dc)[i]).2.2.1:=by rw [eg2];exact iB ((h.2 _ hm).2 _ hm2)
   refine aa.gj e2 (aa.gd (b9 hi) (aa.gd (bf hi) (aa.gd (aU hi hA) ⟨_,rfl,?_,trivial⟩)))
   show ((_,_,_,_,(i:Int)+1,()),(),L,List.set (L[k].1:List dc) (Int.toNat (i:Int)) (((L[k].1:List dc).getD (Int.toNat (i:Int)) ((0:Int),(0:Int),[],())).1,((L[k].1:List dc).getD (Int.toNat (i:Int)) ((0:Int),(0:Int),[],())).2.1,((L[k].1:List dc)[i]).2.2.1,()),())=_
   have e3:List.set (L[k].1:List dc) (Int.toNat (i:Int)) (((L[k].1:List dc).getD (Int.toNat (i:Int)) ((0:Int),(0:Int),[],())).1,((L[k].1:List dc).getD (Int.toNat (i:Int)) ((0:Int),(0:Int),[],())).2.1,((L[k].1:List dc)[i]).2.2.1,())=L[k].1:=by
    rw [eg2,Int.toNat_natCast];exact List.set_getElem_self hi
   rw [e3];rfl
  ·exact aa.br (fun h=>absurd cq (by rw [h];simp)) (fun _=>⟨_,rfl,rfl⟩)
  ·match y,hy with
   | .inl y,e=>
    subst e
    refine aa.gd (b9 hk) (aa.gd (bf hk) (aa.gd (aU hk hL) ⟨_,rfl,?_,trivial⟩))
    show ((_,(k:Int)+1,()),(),List.set L (Int.toNat (k:Int)) (L[k].1,(L.getD (Int.toNat (k:Int)) ([],(0:Int),())).2),())=_
    have e3:List.set L (Int.toNat (k:Int)) (L[k].1,(L.getD (Int.toNat (k:Int)) ([],(0:Int),())).2)=L:=by
     rw [eg,Int.toNat_natCast];exact List.set_getElem_self hk
    rw [e3];rfl
 ·exact aa.br (fun h=>absurd cq (by rw [h];simp)) (fun _=>⟨_,rfl,rfl⟩)
 ·match y,hy with
  | .inl (u1,u2,y,u3),e=>
   have e:y=L:=e
   subst e
   exact ⟨_,rfl,rfl⟩
def Iw (v:cU):Prop:=List.length v.2.2.2.2.1≤1000000∧H9 v.2.2.2.2.2.1∧List.length v.2.2.2.2.2.2.1.2.2.1≤1000000
def qv (v:cU) (h:Iw v):Ml (v,())=some (v,()):=by
 refine (XL (v,())).trans ?_
 refine (aY (iB h.1)).trans ?_
 refine (aY (kF _ h.2.1)).trans ?_
 exact aY (iB h.2.2)
def uP (s:P_2):Prop:=List.length s.2.1≤1000000∧H9 s.2.2.2.1
def hU (s:P_2) (h:uP s):Mc (s,())=some (s,()):=by
 refine (Ym (s,())).trans ?_
 refine (aY (iB h.1)).trans ?_
 exact aY (kF _ h.2)
def th (x a b:Int):LN (x,a,b,())=some (decide (a≤x)&&decide (x≤b),()):=by
 refine (XD (x,a,b,())).trans ?_
 show az (decide (a≤x)==true) (some (decide (x≤b),())) (some (false,()))=_
 cases decide (a≤x) <;> rfl
def yI (x a b:Int):F_7 (x,a,b,())=some (decide (a≤x)&&decide (x≤b),()):=by
 refine (Ys (x,a,b,())).trans ?_
 show az (decide (a≤x)==true) (some (decide (x≤b),())) (some (false,()))=_
 cases decide (a≤x) <;> rfl
def UW (t:xu):KK (t,())=some ((txn.Tx.mk t.1 t.2.1 t.2.2.1 t.2.2.2.1 t.2.2.2.2.1 t.2.2.2.2.2.1).ok,()):=by unfold KK;rfl
def C7 (s n:Int):Jn (s,n,())=some (mL.fE s n,()):=by unfold Jn;rfl
def qP (s:P_2):Prop:=(List.length s.2.1:Int)=s.1.1∧List.length s.2.2.2.1=List.length s.2.1∧1≤List.length s.2.1∧List.length s.2.1≤8∧∀x∈s.2.1,(0:Int)≤x
end Go.Proofs.YtdbjakibneeeiaaGreatDoor.Ex
end
