/- pot.Adjust, by contract, and as a leaf of Ex (complex numbers are not reckoned). -/
import Derived.Test.YtdbjakibneeeiaaGreatDoorKShAll
import Derived.Test.YtdbjakibneeeiaaGreatDoorKG28ExO
import Derived.Test.YtdbjakibneeeiaaGreatDoorKG27TkEnv
import Derived.Test.YtdbjakibneeeiaaGreatDoorKG32PotFlt
import Derived.Laws.FloatArith
import Derived.WalkLawsBesides
import Derived.Test.YtdbjakibneeeiaaGreatDoorKG26ExH
import Derived.Test.YtdbjakibneeeiaaGreatDoorKTxn
import Derived.Test.YtdbjakibneeeiaaGreatDoorKG5CodecRefNum
import Derived.Lib.SliceRun
set_option linter.all false
set_option maxHeartbeats 4000000
set_option maxRecDepth 100000
namespace Go.Proofs.YtdbjakibneeeiaaGreatDoor.pot
open Go.RowKit Sx queue greedy shard flt
theorem retB {x y:Bool} (h:x=y):Ending.returned (tup [.bool x])=.returned (.bool y):=by rw [h];rfl
def mayB (t m:Int):Bool:=decide (1≤m∧m≤1000∧0≤t∧t≤m)
theorem may_iff (t m:Int):mayB t m=true↔1≤m∧m≤1000∧0≤t∧t≤m:=by simp [mayB]
def adjT (t m d:Int):Int:=if mayB t m=true∧-t≤d∧d≤m - t then t+d else t
def adjE (t m d:Int):Int:=if ¬ (mayB t m=true∧-t≤d) then 1 else if d≤m - t then 0 else 6
def two (a b:Int):Value:=.agg #[.int .i64 a,.int .i64 b]
theorem within (a b:Int) (w:World):Calls Tryz.prog 215 (List.toArray [.int .i64 a,.int .i64 b]) w fun e w'=>e=.returned (.bool (decide (0≤a∧a≤b)))∧Below w.heap.size w w':=by
 refine calls_of_exec Sxt.env_ok Tryz.func215 rfl [] (by kernel_rfl) [] (by simp) ?_
 repeat' (first
  | (refine wp_g1 (fun h=>?_) (fun h=>?_))
  | exact wp_back fun β ρ w' hM=>⟨retB (by rw [Bool.eq_iff_iff];simp at *;omega),hM.below⟩)
theorem add (a b c:Int) (w:World) (hc:0≤c) (hc':c≤1000):Calls Tryz.prog 187 (List.toArray [.int .i64 a,.int .i64 b,.int .i64 c]) w fun e w'=>e=.returned (.tuple #[.int .i64 (if 0≤a∧a≤c∧0≤b∧b≤c - a then a+b else 0),.bool (decide (0≤a∧a≤c∧0≤b∧b≤c - a))])∧Below w.heap.size w w':=by
 refine calls_of_exec Sxt.env_ok Tryz.func187 rfl [] (by kernel_rfl) [] (by simp) ?_
 refine meetc rfl (by kernel_rfl) (fun β ρ w' hM=>within a c w') ?_
 refine wp_g0 (fun h1=>?_) (fun h1=>?_)
 ·simp at h1
  refine wp_must (by omega) ?_
  refine meetc rfl (by kernel_rfl) (fun β ρ w' hM=>within b (c - a) w') ?_
  refine wp_br (fun h2=>?_) (fun h2=>?_)
  ·simp at h2
   exact wp_back fun β ρ w' hM=>⟨by rw [decide_eq_false (by omega),if_neg (by omega)];rfl,hM.below⟩
  ·simp at h2
   refine wp_must (by omega) ?_
   exact wp_back fun β ρ w' hM=>⟨by rw [decide_eq_true (by omega),if_pos (by omega)];rfl,hM.below⟩
 ·simp at h1
  exact wp_back fun β ρ w' hM=>⟨by rw [decide_eq_false (by omega),if_neg (by omega)];rfl,hM.below⟩
theorem may (t m:Int) (w:World):Calls Tryz.prog 110 (List.toArray [two t m]) w fun e w'=>e=.returned (.bool (mayB t m))∧Below w.heap.size w w':=by
 refine calls_of_exec Sxt.env_ok Tryz.func110 rfl [] (by kernel_rfl) [] (by simp) ?_
 repeat' (first
  | (refine wp_g1 (fun h=>?_) (fun h=>?_))
  | exact wp_back fun β ρ w' hM=>⟨retB (by rw [Bool.eq_iff_iff];simp [mayB] at *;omega),hM.below⟩)
def cx (a b:Nat):Value:=.complex .f64 (fw a) (fw b)
theorem parts (t m:Int) (w:World) (h:mayB t m=true):Calls Tryz.prog 189 (List.toArray [two t m]) w fun e w'=>e=.returned (cx t.toNat (m - t).toNat)∧Below w.heap.size w w':=by
 rw [may_iff] at h
 refine calls_of_exec Sxt.env_ok Tryz.func189 rfl [] (by kernel_rfl) [] (by simp) ?_
 refine wp_prim (.float .f64 (floatOfInt .f64 t)) (fun w=>by kernel_rfl) ?_
 refine wp_must (by omega) ?_
 refine wp_prim (.float .f64 (floatOfInt .f64 (m - t))) (fun w=>by kernel_rfl) ?_
 refine wp_prim (cx t.toNat (m - t).toNat) (fun w=>by rw [ofInt_fw _ (by omega),ofInt_fw _ (by omega)];rfl) ?_
 exact wp_back fun β ρ w' hM=>⟨rfl,hM.below⟩
theorem back (n:Nat) (w:World) (h:n≤1000):(do pure (Next.value (← convert 237 3 (.float .f64 (fw n)))):Sem Next).run Tryz.prog w=.ok (.value (.int .i64 n)) w:=by
 have hu:(Tryz.prog.underlying 237).isSome=true:=by kernel_rfl
 exact run_val (run_convert_float_int (P:=Tryz.prog) w 237 3 .f64 .i64 (fw n) n hu Tryz.underlying3 (back_fw n (by omega))) Next.value
theorem of_ (a b:Nat) (w:World) (h:a+b≤1000):Calls Tryz.prog 188 (List.toArray [cx a b]) w fun e w'=>e=.returned (two a (a+b))∧Below w.heap.size w w':=by
 refine calls_of_exec Sxt.env_ok Tryz.func188 rfl [] (by kernel_rfl) [] (by simp) ?_
 refine wp_prim (.float .f64 (fw a)) (fun w=>by rfl) ?_
 refine wp_prim (.int .i64 a) (fun w=>back a w (by omega)) ?_
 refine wp_prim (.float .f64 (fw b)) (fun w=>by rfl) ?_
 refine wp_prim (.int .i64 b) (fun w=>back b w (by omega)) ?_
 refine wp_must (by omega) ?_
 exact wp_back fun β ρ w' hM=>⟨rfl,hM.below⟩
theorem adjust (t m d:Int) (w:World) (hd:Fits d):Calls Tryz.prog 150 (List.toArray [two t m,.int .i64 d]) w fun e w'=>e=.returned (.tuple #[two (adjT t m d) m,.int .i64 (adjE t m d)])∧Below w.heap.size w w':=by
 unfold Fits at hd
 have no:¬ (mayB t m=true∧-t≤d)→adjT t m d=t∧adjE t m d=1:=fun h=>⟨if_neg (fun h'=>h ⟨h'.1,h'.2.1⟩),if_pos h⟩
 refine calls_of_exec Sxt.env_ok Tryz.func150 rfl [] (by kernel_rfl) [] (by simp) ?_
 refine meetc rfl (by kernel_rfl) (fun β ρ w' hM=>may t m w') ?_
 cases hm:mayB t m with
 | false=>
  obtain ⟨e1,e2⟩:=no (by simp [hm])
  exact wp_back fun β ρ w' hM=>⟨by rw [e1,e2];rfl,hM.below⟩
 | true=>
  have hm':=(may_iff t m).1 hm
  refine wp_must (by omega) ?_
  refine wp_br (fun h=>?_) (fun h=>?_)
  ·obtain ⟨e1,e2⟩:=no (by simp at h;omega)
   exact wp_back fun β ρ w' hM=>⟨by rw [e1,e2];rfl,hM.below⟩
  ·simp at h
   refine wp_prim (.int .i64 (max d 0)) (fun w=>by simp [Builtin.max_,Builtin.max2,Sem.run_bind];split <;> omega) ?_
   refine meetc rfl (by kernel_rfl) (fun β ρ w' hM=>add t (max d 0) m w' (by omega) (by omega)) ?_
   refine wp_br (fun h2=>?_) (fun h2=>?_)
   ·simp at h2
    exact wp_back fun β ρ w' hM=>⟨by
     rw [show adjT t m d=t from if_neg (by omega),show adjE t m d=6 from by unfold adjE;rw [if_neg (by simp [hm];omega),if_neg (by omega)]];rfl,hM.below⟩
   ·simp at h2
    refine meetc rfl (by kernel_rfl) (fun β ρ w' hM=>parts t m w' hm) ?_
    refine wp_prim (.float .f64 (floatOfInt .f64 d)) (fun w=>by kernel_rfl) ?_
    refine wp_prim (.float .f64 (floatOfInt .f64 d)) (fun w=>by kernel_rfl) ?_
    refine wp_prim (.float .f64 (Op.negFloat .f64 (floatOfInt .f64 d))) (fun w=>by rfl) ?_
    refine wp_prim (.complex .f64 (floatOfInt .f64 d) (Op.negFloat .f64 (floatOfInt .f64 d))) (fun w=>by rfl) ?_
    refine wp_prim (cx (t+d).toNat (m - (t+d)).toNat) (fun w=>by
     have:=sum_sw t (m - t) d d (t+d).toNat (m - (t+d)).toNat (by omega) (by omega) (by omega) (by omega) (by omega) (by omega) (by omega) (by omega) Tryz.prog w 235
     exact run_val this Next.value) ?_
    refine meetc rfl (by kernel_rfl) (fun β ρ w' hM=>of_ (t+d).toNat (m - (t+d)).toNat w' (by omega)) ?_
    exact wp_back fun β ρ w' hM=>⟨by
     rw [show adjT t m d=t+d from if_pos ⟨hm,by omega,by omega⟩,show adjE t m d=0 from by unfold adjE;rw [if_neg (by simp [hm];omega),if_pos (by omega)],
      show (((t+d).toNat:Nat):Int)=t+d from by omega,show t+d+(((m - (t+d)).toNat:Nat):Int)=m from by omega];rfl,hM.below⟩
def adjustE:ESm:=⟨[.flat [.int,.int],.int],[.flat [.int,.int],.int],fun x=>gd (inI x.2.1) (some ((adjT x.1.1 x.1.2.1 x.2.1,x.1.2.1,()),adjE x.1.1 x.1.2.1 x.2.1,()))⟩
theorem adjustE_ok {B:World→Prop}:adjustE.toS.Ok Tryz.prog B 150:=by
 intro O w x vs hw hp hl
 obtain ⟨⟨t,m,u⟩,d,u2⟩:=x
 obtain ⟨y,us,rfl,⟨cs,rfl,k⟩,y2,us2,rfl,h2,h3⟩:=hl
 have h2:y2=.int .i64 d:=h2
 have h3:us2=[]:=h3
 obtain ⟨v1,q1,rfl,k1,v2,q2,rfl,k2,k3⟩:=k
 have k1:v1=[.int .i64 t]:=k1
 have k2:v2=[.int .i64 m]:=k2
 have k3:q2=[]:=k3
 subst h2 h3 k1 k2 k3
 have hd:inI d=true:=by
  cases hi:inI d with
  | true=>rfl
  | false=>exact absurd hp (by simp [ESm.toS,adjustE,gd,hi])
 refine (adjust t m d w (by unfold Fits;have:=inI_iff.1 hd;omega)).mono ?_
 rintro e w' ⟨rfl,hb⟩
 refine ⟨[two (adjT t m d) m,.int .i64 (adjE t m d)],rfl,hb,?_⟩
 show LieA _ [.flat [.int,.int],.int] ((gd (inI d) (some (((adjT t m d,m,()),adjE t m d,()):DenL [.flat [.int,.int],.int]))).getD _) _
 rw [hd]
 exact ⟨_,_,rfl,⟨_,rfl,[_],_,rfl,rfl,[_],_,rfl,rfl,rfl⟩,_,_,rfl,rfl,rfl⟩
end Go.Proofs.YtdbjakibneeeiaaGreatDoor.pot
namespace Go.Proofs.YtdbjakibneeeiaaGreatDoor.Ex
open Go.RowKit Sx
abbrev z0:Sh:=(.flat [.int,.int,.int,.int,.int,.str])
abbrev z1:Sh:=(.flat [.int,.int,(.row z0)])
abbrev z2:Sh:=(.flat [.int,.int,.int,.int,.int,.int,.int,.int])
abbrev z3:Sh:=(.flat [.int,.int])
abbrev z4:Sh:=(.flat [(.row z1),.int])
abbrev z5:Sh:=(.flat [z2,(.row .int),z3,(.row z4)])
abbrev z6:Sh:=(.flat [.int,z0,(.row z0),.int])
abbrev z7:Sh:=(.flat [.int,.int,.int,.int,(.row .int),(.row z4),z6])
abbrev z8:Sh:=(.flat [.int,.int,.int,.int,.str])
abbrev z9:Sh:=(.flat [.int,z0,.int])
abbrev z10:Sh:=(.flat [.bool,.int,z1,(.row z9),z6])
abbrev z11:Sh:=(.flat [z8,.int,.int,z10,z6,.bool])
abbrev z12:Sh:=(.flat [(.num 7),(.num 7),(.num 7),(.num 7),(.num 7),(.num 7)])
abbrev z13:Sh:=(.flat [.bool,.int,z1,(.num 9),z6])
abbrev z14:Sh:=(.flat [.int,.int,.int])
abbrev z15:Sh:=(.flat [z2,z4,z8])
abbrev z16:Sh:=(.flat [.int,.int,.int,.int,.int])
abbrev Q_0:Sh:=z5
abbrev Q_1:Sh:=z7
def sy:List (TypeId×Sh):=[(3,.int),(4,.bool),(5,(.num 0)),(9,.str),(22,(.row .int)),(23,(.row z4)),(24,.int),(26,z0),(27,(.row z0)),(29,z6),(31,z7),(32,z3),(34,z2),(36,z3),(38,z5),(42,(.row .int)),(43,z3),(44,(.row z4)),(46,z5),(48,z6),(50,z7),(69,(.row z1)),(71,(.row z9)),(75,z8),(80,z14),(84,z4),(90,z1),(92,z10),(94,z11),(112,z4),(123,z15),(143,z12),(149,z9),(154,(.row (.row z0))),(169,(.row (.num 0))),(205,z16),(256,(.row (.row z1)))]
def EN:Sx.Env:={ Sxz.env with keep:=true,made:=true,how:=[(75,.fresh 149 8),(82,.fresh 3 1),(84,.fresh 26 6),(85,.fresh 3 1),(119,.fresh 112 2),(120,.fresh 90 3),(207,.fresh 26 6),(216,.fresh 90 3)] }
theorem EN_ok:EN.Ok Tryz.prog:=⟨Sxz.env_ok.zero,Sxz.env_ok.agg1,Sxz.env_ok.aggN,Sxz.env_ok.off,Sxz.env_ok.row,Sxz.env_ok.str,Sxz.env_ok.strs,Sxz.env_ok.ints,Sxz.env_ok.size,Sxz.env_ok.mixed,Sxz.env_ok.row1,Sxz.env_ok.meth,Sxz.env_ok.arr⟩
theorem clone75 (X:List Value) (a:Option Addr) (n c:Nat) (w:World) (hs:Sl a n c) (hX:X.length=n*8) (ho:∀u∈X,u.oneCell'=true) (hrow:At w (pt a n) X) (hl:n≤1000000) :
  Calls Tryz.prog 75 (List.toArray [.slice a n c]) w fun e w'=>∃v,e=.returned v∧Below w.heap.size w w'∧w'.ownsRow w.heap.size 149 8 v n X:=by
 refine calls_of_row (Env.Ok.howE Sxz.env_ok [(75,.fresh 149 8)]) Tryz.func75 rfl [] (by kernel_rfl) (n:=2) rfl [.v (.slice a n c)] ⟨[],[],[rowF (pt a n) X]⟩ [] (mem_plain _ (at1 hrow)) (Rels.vals [.slice a n c]) ?_
 refine wp_prim (.bool a.isNone) (fun w=>by simp [eqGuard,Lib.run_eql_slice_nil w _ _ a n c 0 0 Tryz.underlying71]) ?_
 refine wp_br (fun h1=>?_) (fun h1=>?_)
 ·cases a with
  | some _=>cases h1
  | none=>
   have h0:=(hs.2.2 rfl).1
   exact wp_back fun β ρ w' hM'=>⟨_,rfl,hM'.below,by
    have hl0:X=[]:=List.eq_nil_of_length_eq_zero (by omega)
    subst hl0
    exact ⟨by simp [h0],.inl ⟨rfl,h0⟩⟩⟩
 ·refine ⟨X,hX,ho,fun β ρ w' hM' ad had j u hu=>?_,?_⟩
  ·subst had
   have h1:=hM'.at_ List.mem_cons_self
   rw [pt_pos (k:=0) (by have:=(List.getElem?_eq_some_iff.1 hu).1;rw [hX] at this;omega)] at h1
   exact h1.cell hu
  ·refine wp_must ⟨by show 0+n≤maxLen;unfold maxLen;omega,by show (0+n)*72≤140737488355328;omega,fun ha=>hs.2.2 ha⟩ ?_
   refine wp_end (fun β ρ w' v hM' hv=>⟨v,rfl,hM'.below,?_⟩)
   have:=hM'.mine (i:=0) (r:=⟨149,8,0+n,[]++X⟩) rfl hv
   simpa using this
theorem clone82 (X:List Value) (a:Option Addr) (n c:Nat) (w:World) (hs:Sl a n c) (hX:X.length=n*1) (ho:∀u∈X,u.oneCell'=true) (hrow:At w (pt a n) X) (hl:n≤1000000) :
  Calls Tryz.prog 82 (List.toArray [.slice a n c]) w fun e w'=>∃v,e=.returned v∧Below w.heap.size w w'∧w'.ownsRow w.heap.size 3 1 v n X:=by
 refine calls_of_row (Env.Ok.howE Sxz.env_ok [(82,.fresh 3 1)]) Tryz.func82 rfl [] (by kernel_rfl) (n:=2) rfl [.v (.slice a n c)] ⟨[],[],[rowF (pt a n) X]⟩ [] (mem_plain _ (at1 hrow)) (Rels.vals [.slice a n c]) ?_
 refine wp_prim (.bool a.isNone) (fun w=>by simp [eqGuard,Lib.run_eql_slice_nil w _ _ a n c 0 0 Tryz.underlying22]) ?_
 refine wp_br (fun h1=>?_) (fun h1=>?_)
 ·cases a with
  | some _=>cases h1
  | none=>
   have h0:=(hs.2.2 rfl).1
   exact wp_back fun β ρ w' hM'=>⟨_,rfl,hM'.below,by
    have hl0:X=[]:=List.eq_nil_of_length_eq_zero (by omega)
    subst hl0
    exact ⟨by simp [h0],.inl ⟨rfl,h0⟩⟩⟩
 ·refine ⟨X,hX,ho,fun β ρ w' hM' ad had j u hu=>?_,?_⟩
  ·subst had
   have h1:=hM'.at_ List.mem_cons_self
   rw [pt_pos (k:=0) (by have:=(List.getElem?_eq_some_iff.1 hu).1;rw [hX] at this;omega)] at h1
   exact h1.cell hu
  ·refine wp_must ⟨by show 0+n≤maxLen;unfold maxLen;omega,by show (0+n)*8≤140737488355328;omega,fun ha=>hs.2.2 ha⟩ ?_
   refine wp_end (fun β ρ w' v hM' hv=>⟨v,rfl,hM'.below,?_⟩)
   have:=hM'.mine (i:=0) (r:=⟨3,1,0+n,[]++X⟩) rfl hv
   simpa using this
theorem clone84 (X:List Value) (a:Option Addr) (n c:Nat) (w:World) (hs:Sl a n c) (hX:X.length=n*6) (ho:∀u∈X,u.oneCell'=true) (hrow:At w (pt a n) X) (hl:n≤1000000) :
  Calls Tryz.prog 84 (List.toArray [.slice a n c]) w fun e w'=>∃v,e=.returned v∧Below w.heap.size w w'∧w'.ownsRow w.heap.size 26 6 v n X:=by
 refine calls_of_row (Env.Ok.howE Sxz.env_ok [(84,.fresh 26 6)]) Tryz.func84 rfl [] (by kernel_rfl) (n:=2) rfl [.v (.slice a n c)] ⟨[],[],[rowF (pt a n) X]⟩ [] (mem_plain _ (at1 hrow)) (Rels.vals [.slice a n c]) ?_
 refine wp_prim (.bool a.isNone) (fun w=>by simp [eqGuard,Lib.run_eql_slice_nil w _ _ a n c 0 0 Tryz.underlying27]) ?_
 refine wp_br (fun h1=>?_) (fun h1=>?_)
 ·cases a with
  | some _=>cases h1
  | none=>
   have h0:=(hs.2.2 rfl).1
   exact wp_back fun β ρ w' hM'=>⟨_,rfl,hM'.below,by
    have hl0:X=[]:=List.eq_nil_of_length_eq_zero (by omega)
    subst hl0
    exact ⟨by simp [h0],.inl ⟨rfl,h0⟩⟩⟩
 ·refine ⟨X,hX,ho,fun β ρ w' hM' ad had j u hu=>?_,?_⟩
  ·subst had
   have h1:=hM'.at_ List.mem_cons_self
   rw [pt_pos (k:=0) (by have:=(List.getElem?_eq_some_iff.1 hu).1;rw [hX] at this;omega)] at h1
   exact h1.cell hu
  ·refine wp_must ⟨by show 0+n≤maxLen;unfold maxLen;omega,by show (0+n)*56≤140737488355328;omega,fun ha=>hs.2.2 ha⟩ ?_
   refine wp_end (fun β ρ w' v hM' hv=>⟨v,rfl,hM'.below,?_⟩)
   have:=hM'.mine (i:=0) (r:=⟨26,6,0+n,[]++X⟩) rfl hv
   simpa using this
theorem clone85 (X:List Value) (a:Option Addr) (n c:Nat) (w:World) (hs:Sl a n c) (hX:X.length=n*1) (ho:∀u∈X,u.oneCell'=true) (hrow:At w (pt a n) X) (hl:n≤1000000) :
  Calls Tryz.prog 85 (List.toArray [.slice a n c]) w fun e w'=>∃v,e=.returned v∧Below w.heap.size w w'∧w'.ownsRow w.heap.size 3 1 v n X:=by
 refine calls_of_row (Env.Ok.howE Sxz.env_ok [(85,.fresh 3 1)]) Tryz.func85 rfl [] (by kernel_rfl) (n:=2) rfl [.v (.slice a n c)] ⟨[],[],[rowF (pt a n) X]⟩ [] (mem_plain _ (at1 hrow)) (Rels.vals [.slice a n c]) ?_
 refine wp_prim (.bool a.isNone) (fun w=>by simp [eqGuard,Lib.run_eql_slice_nil w _ _ a n c 0 0 Tryz.underlying42]) ?_
 refine wp_br (fun h1=>?_) (fun h1=>?_)
 ·cases a with
  | some _=>cases h1
  | none=>
   have h0:=(hs.2.2 rfl).1
   exact wp_back fun β ρ w' hM'=>⟨_,rfl,hM'.below,by
    have hl0:X=[]:=List.eq_nil_of_length_eq_zero (by omega)
    subst hl0
    exact ⟨by simp [h0],.inl ⟨rfl,h0⟩⟩⟩
 ·refine ⟨X,hX,ho,fun β ρ w' hM' ad had j u hu=>?_,?_⟩
  ·subst had
   have h1:=hM'.at_ List.mem_cons_self
   rw [pt_pos (k:=0) (by have:=(List.getElem?_eq_some_iff.1 hu).1;rw [hX] at this;omega)] at h1
   exact h1.cell hu
  ·refine wp_must ⟨by show 0+n≤maxLen;unfold maxLen;omega,by show (0+n)*8≤140737488355328;omega,fun ha=>hs.2.2 ha⟩ ?_
   refine wp_end (fun β ρ w' v hM' hv=>⟨v,rfl,hM'.below,?_⟩)
   have:=hM'.mine (i:=0) (r:=⟨3,1,0+n,[]++X⟩) rfl hv
   simpa using this
theorem clone119 (X:List Value) (a:Option Addr) (n c:Nat) (w:World) (hs:Sl a n c) (hX:X.length=n*2) (ho:∀u∈X,u.oneCell'=true) (hrow:At w (pt a n) X) (hl:n≤1000000) :
  Calls Tryz.prog 119 (List.toArray [.slice a n c]) w fun e w'=>∃v,e=.returned v∧Below w.heap.size w w'∧w'.ownsRow w.heap.size 112 2 v n X:=by
 refine calls_of_row (Env.Ok.howE Sxz.env_ok [(119,.fresh 112 2)]) Tryz.func119 rfl [] (by kernel_rfl) (n:=2) rfl [.v (.slice a n c)] ⟨[],[],[rowF (pt a n) X]⟩ [] (mem_plain _ (at1 hrow)) (Rels.vals [.slice a n c]) ?_
 refine wp_prim (.bool a.isNone) (fun w=>by simp [eqGuard,Lib.run_eql_slice_nil w _ _ a n c 0 0 Tryz.underlying44]) ?_
 refine wp_br (fun h1=>?_) (fun h1=>?_)
 ·cases a with
  | some _=>cases h1
  | none=>
   have h0:=(hs.2.2 rfl).1
   exact wp_back fun β ρ w' hM'=>⟨_,rfl,hM'.below,by
    have hl0:X=[]:=List.eq_nil_of_length_eq_zero (by omega)
    subst hl0
    exact ⟨by simp [h0],.inl ⟨rfl,h0⟩⟩⟩
 ·refine ⟨X,hX,ho,fun β ρ w' hM' ad had j u hu=>?_,?_⟩
  ·subst had
   have h1:=hM'.at_ List.mem_cons_self
   rw [pt_pos (k:=0) (by have:=(List.getElem?_eq_some_iff.1 hu).1;rw [hX] at this;omega)] at h1
   exact h1.cell hu
  ·refine wp_must ⟨by show 0+n≤maxLen;unfold maxLen;omega,by show (0+n)*32≤140737488355328;omega,fun ha=>hs.2.2 ha⟩ ?_
   refine wp_end (fun β ρ w' v hM' hv=>⟨v,rfl,hM'.below,?_⟩)
   have:=hM'.mine (i:=0) (r:=⟨112,2,0+n,[]++X⟩) rfl hv
   simpa using this
theorem clone120 (X:List Value) (a:Option Addr) (n c:Nat) (w:World) (hs:Sl a n c) (hX:X.length=n*3) (ho:∀u∈X,u.oneCell'=true) (hrow:At w (pt a n) X) (hl:n≤1000000) :
  Calls Tryz.prog 120 (List.toArray [.slice a n c]) w fun e w'=>∃v,e=.returned v∧Below w.heap.size w w'∧w'.ownsRow w.heap.size 90 3 v n X:=by
 refine calls_of_row (Env.Ok.howE Sxz.env_ok [(120,.fresh 90 3)]) Tryz.func120 rfl [] (by kernel_rfl) (n:=2) rfl [.v (.slice a n c)] ⟨[],[],[rowF (pt a n) X]⟩ [] (mem_plain _ (at1 hrow)) (Rels.vals [.slice a n c]) ?_
 refine wp_prim (.bool a.isNone) (fun w=>by simp [eqGuard,Lib.run_eql_slice_nil w _ _ a n c 0 0 Tryz.underlying69]) ?_
 refine wp_br (fun h1=>?_) (fun h1=>?_)
 ·cases a with
  | some _=>cases h1
  | none=>
   have h0:=(hs.2.2 rfl).1
   exact wp_back fun β ρ w' hM'=>⟨_,rfl,hM'.below,by
    have hl0:X=[]:=List.eq_nil_of_length_eq_zero (by omega)
    subst hl0
    exact ⟨by simp [h0],.inl ⟨rfl,h0⟩⟩⟩
 ·refine ⟨X,hX,ho,fun β ρ w' hM' ad had j u hu=>?_,?_⟩
  ·subst had
   have h1:=hM'.at_ List.mem_cons_self
   rw [pt_pos (k:=0) (by have:=(List.getElem?_eq_some_iff.1 hu).1;rw [hX] at this;omega)] at h1
   exact h1.cell hu
  ·refine wp_must ⟨by show 0+n≤maxLen;unfold maxLen;omega,by show (0+n)*40≤140737488355328;omega,fun ha=>hs.2.2 ha⟩ ?_
   refine wp_end (fun β ρ w' v hM' hv=>⟨v,rfl,hM'.below,?_⟩)
   have:=hM'.mine (i:=0) (r:=⟨90,3,0+n,[]++X⟩) rfl hv
   simpa using this
theorem grow207 (k:Nat) (w:World) (hk:k≤1000000) :
  Calls Tryz.prog 207 #[.slice none 0 0,.int .i64 k] w fun e w'=>∃v,e=.returned v∧Below w.heap.size w w'∧w'.ownsRow w.heap.size 26 6 v 0 []:=by
 refine calls_of_row Sxz.env_ok Tryz.func207 rfl [] (by kernel_rfl) (n:=4) rfl [.v (.slice none 0 0),.v (.int .i64 k)] ⟨[],[],[]⟩ [] (mem_plain _ (by simp)) (Rels.vals [.slice none 0 0,.int .i64 k]) ?_
 refine wp_must ⟨by omega,by omega⟩ ?_
 refine wp_must ⟨by omega,by omega⟩ ?_
 refine wp_br (fun h2=>?_) (fun h2=>?_)
 ·refine wp_prim (.slice none 0 0) (fun w=>by simp [Instr.sliceAt,Instr.slice,run_underlying Tryz.underlying27,Sem.run_bind,go_sem]) ?_
  have h2:(0:Int)<(k:Int) - (0 - 0):=by simpa using h2
  refine wp_must ⟨h2,by omega,by omega⟩ ?_
  intro xs hx
  refine wp_must ⟨by omega,by omega⟩ ?_
  refine wp_end (fun β ρ w' v hM' hv=>⟨v,rfl,hM'.below,?_⟩)
  have:=hM'.mine (i:=0) (r:=⟨26,6,0,xs.take 0⟩) rfl hv
  simpa using this
 ·exact wp_back fun β ρ w' hM'=>⟨_,rfl,hM'.below,rfl,.inl ⟨rfl,rfl⟩⟩
theorem grow216 (k:Nat) (w:World) (hk:k≤1000000) :
  Calls Tryz.prog 216 #[.slice none 0 0,.int .i64 k] w fun e w'=>∃v,e=.returned v∧Below w.heap.size w w'∧w'.ownsRow w.heap.size 90 3 v 0 []:=by
 refine calls_of_row Sxz.env_ok Tryz.func216 rfl [] (by kernel_rfl) (n:=4) rfl [.v (.slice none 0 0),.v (.int .i64 k)] ⟨[],[],[]⟩ [] (mem_plain _ (by simp)) (Rels.vals [.slice none 0 0,.int .i64 k]) ?_
 refine wp_must ⟨by omega,by omega⟩ ?_
 refine wp_must ⟨by omega,by omega⟩ ?_
 refine wp_br (fun h2=>?_) (fun h2=>?_)
 ·refine wp_prim (.slice none 0 0) (fun w=>by simp [Instr.sliceAt,Instr.slice,run_underlying Tryz.underlying69,Sem.run_bind,go_sem]) ?_
  have h2:(0:Int)<(k:Int) - (0 - 0):=by simpa using h2
  refine wp_must ⟨h2,by omega,by omega⟩ ?_
  intro xs hx
  refine wp_must ⟨by omega,by omega⟩ ?_
  refine wp_end (fun β ρ w' v hM' hv=>⟨v,rfl,hM'.below,?_⟩)
  have:=hM'.mine (i:=0) (r:=⟨90,3,0,xs.take 0⟩) rfl hv
  simpa using this
 ·exact wp_back fun β ρ w' hM'=>⟨_,rfl,hM'.below,rfl,.inl ⟨rfl,rfl⟩⟩
theorem hB:∀w w',txn.Most w→Below w.heap.size w w'→txn.Most w':=fun w w' h k=>h.later k
abbrev OkE (t:EE):Prop:=t.toD.Oks Sxz.env Tryz.prog txn.Most EN
noncomputable abbrev xf (t:EE) (H:FH) (f:FuncId) {ps rs:List Sh} (x:DenL ps):Option (DenL rs):=xfun Tryz.prog EN t H f ps rs x
theorem adE {t:EE} {f:FuncId} {ps rs:List Sh} {F:DenL ps→Option (DenL rs)} (h:OkE t) (H:FH) (k:chkF Tryz.prog H f=true) (e:∀x,F x=xfun Tryz.prog EN t H f ps rs x):OkE (t.ad f ⟨ps,rs,F⟩):=EE.add_ok h rfl hB k (H:=H) (congrArg (ESm.mk _ _) (funext e))
def fr:List (FuncId×EFr):=[(75,cloneE z9 149 8),(82,cloneE .int 3 1),(84,cloneE z0 26 6),(85,cloneE .int 3 1),(119,cloneE z4 112 2),(120,cloneE z1 90 3),(207,growE z0 26 6),(216,growE z1 90 3)]
def t0:EE:=⟨sy,[],fr,[]⟩
theorem t0_ok:t0.toD.Oks Sxz.env Tryz.prog txn.Most EN:=EE.base_ok (E:=Sxz.env) (sy:=sy) (fr:=fr) (idc:=[]) EN_ok rfl rfl rfl rfl (by kernel_rfl) (fun f S h=>by
 simp only [fr,List.mem_cons,Prod.mk.injEq,List.not_mem_nil,or_false] at h
 rcases h with ⟨rfl,rfl⟩ | ⟨rfl,rfl⟩ | ⟨rfl,rfl⟩ | ⟨rfl,rfl⟩ | ⟨rfl,rfl⟩ | ⟨rfl,rfl⟩ | ⟨rfl,rfl⟩ | ⟨rfl,rfl⟩
 ·exact ⟨by kernel_rfl,cloneE_ok rfl clone75⟩
 ·exact ⟨by kernel_rfl,cloneE_ok rfl clone82⟩
 ·exact ⟨by kernel_rfl,cloneE_ok rfl clone84⟩
 ·exact ⟨by kernel_rfl,cloneE_ok rfl clone85⟩
 ·exact ⟨by kernel_rfl,cloneE_ok rfl clone119⟩
 ·exact ⟨by kernel_rfl,cloneE_ok rfl clone120⟩
 ·exact ⟨by kernel_rfl,growE_ok grow207⟩
 ·exact ⟨by kernel_rfl,growE_ok grow216⟩
) (fun a b u h=>by cases h) (fun f S h=>lk_mem h)
@[irreducible] noncomputable def F_0d (x:DenL [.int]):Option (DenL [.str]):=(⟨[.int],[.str],fun x=>((fun n:Int=>bif decide (n<9223372036854775808) then some (⟨(codec.numV n).toArray⟩:ByteArray) else none) x.1).map fun z=>(z,())⟩:ESm).F x
noncomputable def s_1:ESm:=⟨[.int],[.str],F_0d⟩
theorem s_p:s_1=(⟨[.int],[.str],fun x=>((fun n:Int=>bif decide (n<9223372036854775808) then some (⟨(codec.numV n).toArray⟩:ByteArray) else none) x.1).map fun z=>(z,())⟩:ESm):=congrArg (ESm.mk _ _) (funext fun x=>by unfold F_0d;rfl)
noncomputable def t_0I:EE:=t0.ad 69 s_1
theorem t_0Y:OkE t_0I:=EE.leaf_ok t0_ok (by kernel_rfl) (S:=s_1) (by rw [s_p];exact leaf_is (F:=fun n:Int=>bif decide (n<9223372036854775808) then some (⟨(codec.numV n).toArray⟩:ByteArray) else none) (fun s w z h=>by
 cases hd:decide (s<9223372036854775808) with
 | false=>simp only [hd,cond_false] at h;cases h
 | true=>simp only [hd,cond_true,Option.some.injEq] at h;subst h;exact codec.rnumber_any s w (of_decide_eq_true hd)))
@[irreducible] noncomputable def F_0e (x:DenL [.str]):Option (DenL [.str]):=(⟨[.str],[.str],fun x=>((fun s:ByteArray=>bif decide (s.size≤maxLen) then some (⟨(codec.textV s.data.toList).toArray⟩:ByteArray) else none) x.1).map fun z=>(z,())⟩:ESm).F x
noncomputable def s_2:ESm:=⟨[.str],[.str],F_0e⟩
theorem s_q:s_2=(⟨[.str],[.str],fun x=>((fun s:ByteArray=>bif decide (s.size≤maxLen) then some (⟨(codec.textV s.data.toList).toArray⟩:ByteArray) else none) x.1).map fun z=>(z,())⟩:ESm):=congrArg (ESm.mk _ _) (funext fun x=>by unfold F_0e;rfl)
noncomputable def t_0J:EE:=t_0I.ad 70 s_2
theorem t_0Z:OkE t_0J:=EE.leaf_ok t_0Y (by kernel_rfl) (S:=s_2) (by rw [s_q];exact leaf_ss (F:=fun s:ByteArray=>bif decide (s.size≤maxLen) then some (⟨(codec.textV s.data.toList).toArray⟩:ByteArray) else none) (fun s w z h=>by
 cases hd:decide (s.size≤maxLen) with
 | false=>simp only [hd,cond_false] at h;cases h
 | true=>simp only [hd,cond_true,Option.some.injEq] at h;subst h;exact codec.rtextf_any s w (of_decide_eq_true hd)))
@[irreducible] noncomputable def F_r (x:DenL [.int,.int]):Option (DenL [.int]):=(⟨[.int,.int],[.int],fun x=>some (fnv.shardV x.1 x.2.1,())⟩:ESm).F x
noncomputable def s_3:ESm:=⟨[.int,.int],[.int],F_r⟩
theorem s_r:s_3=(⟨[.int,.int],[.int],fun x=>some (fnv.shardV x.1 x.2.1,())⟩:ESm):=congrArg (ESm.mk _ _) (funext fun x=>by unfold F_r;rfl)
noncomputable def t_0K:EE:=t_0J.ad 97 s_3
theorem t_10:OkE t_0K:=EE.leaf_ok t_0Z (by kernel_rfl) (S:=s_3) (by rw [s_r];exact leaf_ii (fun s n w=>fnv.rshard_any s n w))
@[irreducible] noncomputable def F_s (x:DenL [.int,.int]):Option (DenL [.int]):=(⟨[.int,.int],[.int],fun x=>some (fnv.shardV x.1 x.2.1,())⟩:ESm).F x
noncomputable def s_4:ESm:=⟨[.int,.int],[.int],F_s⟩
theorem s_s:s_4=(⟨[.int,.int],[.int],fun x=>some (fnv.shardV x.1 x.2.1,())⟩:ESm):=congrArg (ESm.mk _ _) (funext fun x=>by unfold F_s;rfl)
noncomputable def t_0L:EE:=t_0K.ad 132 s_4
theorem t_11:OkE t_0L:=EE.leaf_ok t_10 (by kernel_rfl) (S:=s_4) (by rw [s_s];exact leaf_ii (fun s n w=>fnv.shard_any s n w))
@[irreducible] noncomputable def F_0f (x:DenL [.str]):Option (DenL [z0,.bool]):=(queue.decE:ESm).F x
noncomputable def s_5:ESm:=⟨[.str],[z0,.bool],F_0f⟩
theorem s_t:s_5=(queue.decE:ESm):=congrArg (ESm.mk _ _) (funext fun x=>by unfold F_0f;rfl)
noncomputable def t_0M:EE:=t_0L.ad 135 s_5
theorem t_12:OkE t_0M:=EE.leaf_ok t_11 (by kernel_rfl) (S:=s_5) (by rw [s_t];exact queue.decE_ok)
@[irreducible] noncomputable def F_0g (x:DenL [z4,.int]):Option (DenL [z1]):=(shard.getEs:ESm).F x
noncomputable def s_6:ESm:=⟨[z4,.int],[z1],F_0g⟩
theorem s_u:s_6=(shard.getEs:ESm):=congrArg (ESm.mk _ _) (funext fun x=>by unfold F_0g;rfl)
noncomputable def t_0N:EE:=t_0M.ad 136 s_6
theorem t_13:OkE t_0N:=EE.leaf_ok t_12 (by kernel_rfl) (S:=s_6) (by rw [s_u];exact shard.getEs_ok _)
@[irreducible] noncomputable def F_0h (x:DenL [z1,.int]):Option (DenL [z0,.bool]):=(queue.findE:ESm).F x
noncomputable def s_7:ESm:=⟨[z1,.int],[z0,.bool],F_0h⟩
theorem s_v:s_7=(queue.findE:ESm):=congrArg (ESm.mk _ _) (funext fun x=>by unfold F_0h;rfl)
noncomputable def t_0O:EE:=t_0N.ad 139 s_7
theorem t_14:OkE t_0O:=EE.leaf_ok t_13 (by kernel_rfl) (S:=s_7) (by rw [s_v];exact queue.findE_ok _)
@[irreducible] noncomputable def F_0i (x:DenL [z1,z0]):Option (DenL [z1]):=(queue.putE:ESm).F x
noncomputable def s_8:ESm:=⟨[z1,z0],[z1],F_0i⟩
theorem s_w:s_8=(queue.putE:ESm):=congrArg (ESm.mk _ _) (funext fun x=>by unfold F_0i;rfl)
noncomputable def t_0P:EE:=t_0O.ad 141 s_8
theorem t_15:OkE t_0P:=EE.leaf_ok t_14 (by kernel_rfl) (S:=s_8) (by rw [s_w];exact queue.putE_ok _)
@[irreducible] noncomputable def F_t (x:DenL [(.row z1),.int]):Option (DenL [(.row z0)]):=(shard.templateEs:ESm).F x
noncomputable def s_9:ESm:=⟨[(.row z1),.int],[(.row z0)],F_t⟩
theorem s_x:s_9=(shard.templateEs:ESm):=congrArg (ESm.mk _ _) (funext fun x=>by unfold F_t;rfl)
noncomputable def t_0Q:EE:=t_0P.ad 145 s_9
theorem t_16:OkE t_0Q:=EE.leaf_ok t_15 (by kernel_rfl) (S:=s_9) (by rw [s_x];exact shard.templateEs_ok)
@[irreducible] noncomputable def F_0j (x:DenL [z3,.int]):Option (DenL [z3,.int]):=(pot.adjustE:ESm).F x
noncomputable def s_a:ESm:=⟨[z3,.int],[z3,.int],F_0j⟩
theorem s_y:s_a=(pot.adjustE:ESm):=congrArg (ESm.mk _ _) (funext fun x=>by unfold F_0j;rfl)
noncomputable def t_0R:EE:=t_0Q.ad 150 s_a
theorem t_17:OkE t_0R:=EE.leaf_ok t_16 (by kernel_rfl) (S:=s_a) (by rw [s_y];exact pot.adjustE_ok)
@[irreducible] noncomputable def F_u (x:DenL [(.row z4)]):Option (DenL [(.row z1)]):=(shard.joinEs:ESm).F x
noncomputable def s_b:ESm:=⟨[(.row z4)],[(.row z1)],F_u⟩
theorem s_z:s_b=(shard.joinEs:ESm):=congrArg (ESm.mk _ _) (funext fun x=>by unfold F_u;rfl)
noncomputable def t_0S:EE:=t_0R.ad 153 s_b
theorem t_18:OkE t_0S:=EE.leaf_ok t_17 (by kernel_rfl) (S:=s_b) (by rw [s_z];exact shard.joinEs_ok _)
@[irreducible] noncomputable def F_U (x:DenL [z0]):Option (DenL [.bool]):=(⟨[TxSh],[.bool],fun x=>some ((txn.Tx.mk x.1.1 x.1.2.1 x.1.2.2.1 x.1.2.2.2.1 x.1.2.2.2.2.1 x.1.2.2.2.2.2.1).ok,())⟩:ESm).F x
noncomputable def s_c:ESm:=⟨[z0],[.bool],F_U⟩
theorem s_A:s_c=(⟨[TxSh],[.bool],fun x=>some ((txn.Tx.mk x.1.1 x.1.2.1 x.1.2.2.1 x.1.2.2.2.1 x.1.2.2.2.2.1 x.1.2.2.2.2.2.1).ok,())⟩:ESm):=congrArg (ESm.mk _ _) (funext fun x=>by unfold F_U;rfl)
noncomputable def t_0T:EE:=t_0S.ad 163 s_c
theorem t_19:OkE t_0T:=EE.leaf_ok t_18 (by kernel_rfl) (S:=s_c) (by rw [s_A];exact leaf_txb (F:=fun s n t c g d=>(txn.Tx.mk s n t c g d).ok) (fun s n t c g d w h=>txn.check (txn.Tx.mk s n t c g d) w h))
@[irreducible] noncomputable def F_0k (x:DenL [z1,.int]):Option (DenL [z1]):=(queue.dropE:ESm).F x
noncomputable def s_d:ESm:=⟨[z1,.int],[z1],F_0k⟩
theorem s_B:s_d=(queue.dropE:ESm):=congrArg (ESm.mk _ _) (funext fun x=>by unfold F_0k;rfl)
noncomputable def t_0U:EE:=t_0T.ad 172 s_d
theorem t_1a:OkE t_0U:=EE.leaf_ok t_19 (by kernel_rfl) (S:=s_d) (by rw [s_B];exact queue.dropE_ok _)
@[irreducible] noncomputable def F_0l (x:DenL [z0]):Option (DenL [.str,.bool]):=(queue.encE:ESm).F x
noncomputable def s_e:ESm:=⟨[z0],[.str,.bool],F_0l⟩
theorem s_C:s_e=(queue.encE:ESm):=congrArg (ESm.mk _ _) (funext fun x=>by unfold F_0l;rfl)
noncomputable def t_7:EE:=t_0U.ad 202 s_e
theorem t_1b:OkE t_7:=EE.leaf_ok t_1a (by kernel_rfl) (S:=s_e) (by rw [s_C];exact queue.encE_ok)
def h_5:FH:=⟨[],[],[],[]⟩
@[irreducible] noncomputable def F_V (x:DenL [z0]):Option (DenL [.bool]):=xf t_7 h_5 108 x
noncomputable def t_8:EE:=t_7.ad 108 ⟨_,_,F_V⟩
theorem t_1c:OkE t_8:=adE t_1b h_5 (by kernel_rfl) fun x=>by unfold F_V;rfl
def h_6:FH:=⟨[],[(2,⟨[],0,⟨[.d (.row z0),.d .int]++an 3 ([.d .int]++an 16 []),[],[]⟩,[(.ret,⟨an 4 ([.d .bool]++an 17 []),[],[]⟩),(.exit 0,⟨[.d (.row z0),.d .int]++an 20 [],[],[]⟩)]⟩)],[],[]⟩
@[irreducible] noncomputable def F_v (x:DenL [(.row z0),.int]):Option (DenL [.bool]):=xf t_8 h_6 64 x
noncomputable def t_9:EE:=t_8.ad 64 ⟨_,_,F_v⟩
theorem t_1d:OkE t_9:=adE t_1c h_6 (by kernel_rfl) fun x=>by unfold F_v;rfl
def h_7:FH:=⟨[],[(2,⟨[],0,⟨[.d (.row z1),.d .int]++an 3 ([.d .int]++an 17 []),[],[]⟩,[(.ret,⟨an 4 ([.d .bool]++an 18 []),[],[]⟩),(.exit 0,⟨[.d (.row z1),.d .int]++an 21 [],[],[]⟩)]⟩)],[],[]⟩
@[irreducible] noncomputable def F_w (x:DenL [(.row z1),.int]):Option (DenL [.bool]):=xf t_9 h_7 31 x
noncomputable def t_a:EE:=t_9.ad 31 ⟨_,_,F_w⟩
theorem t_1e:OkE t_a:=adE t_1d h_7 (by kernel_rfl) fun x=>by unfold F_w;rfl
def h_8:FH:=⟨[],[(2,⟨[],0,⟨[.any,.p 0 0,.any,.d .int]++an 25 [],[some ([.d z5],38)],[]⟩,[(.ret,⟨[.any,.any,.d .bool]++an 26 [],[],[]⟩),(.exit 0,⟨[.any,.p 0 0]++an 27 [],[some ([.d z5],38)],[]⟩)]⟩)],[],[]⟩
@[irreducible] noncomputable def F_e (x:DenL [z5]):Option (DenL [.bool]):=xf t_a h_8 9 x
noncomputable def t_b:EE:=t_a.ad 9 ⟨_,_,F_e⟩
theorem t_1f:OkE t_b:=adE t_1e h_8 (by kernel_rfl) fun x=>by unfold F_e;rfl
def h_9:FH:=⟨[],[],[],[]⟩
@[irreducible] noncomputable def F_W (x:DenL [z7]):Option (DenL [.bool]):=xf t_b h_9 10 x
noncomputable def t_c:EE:=t_b.ad 10 ⟨_,_,F_W⟩
theorem t_1g:OkE t_c:=adE t_1f h_9 (by kernel_rfl) fun x=>by unfold F_W;rfl
def h_a:FH:=⟨[],[],[],[]⟩
@[irreducible] noncomputable def F_7 (x:DenL [.int,.int,.int]):Option (DenL [.bool]):=xf t_c h_a 109 x
noncomputable def t_d:EE:=t_c.ad 109 ⟨_,_,F_7⟩
theorem t_1h:OkE t_d:=adE t_1g h_a (by kernel_rfl) fun x=>by unfold F_7;rfl
def h_b:FH:=⟨[],[],[],[]⟩
@[irreducible] noncomputable def F_X (x:DenL [z2]):Option (DenL [.bool]):=xf t_d h_b 65 x
noncomputable def t_e:EE:=t_d.ad 65 ⟨_,_,F_X⟩
theorem t_1i:OkE t_e:=adE t_1h h_b (by kernel_rfl) fun x=>by unfold F_X;rfl
def h_c:FH:=⟨[],[],[],[]⟩
@[irreducible] noncomputable def F_0m (x:DenL [.int]):Option (DenL [(.row .int),.int]):=xf t_e h_c 66 x
noncomputable def t_f:EE:=t_e.ad 66 ⟨_,_,F_0m⟩
theorem t_1j:OkE t_f:=adE t_1i h_c (by kernel_rfl) fun x=>by unfold F_0m;rfl
def h_d:FH:=⟨[],[],[],[]⟩
@[irreducible] noncomputable def F_0n (x:DenL [z3]):Option (DenL [.bool]):=xf t_f h_d 110 x
noncomputable def t_g:EE:=t_f.ad 110 ⟨_,_,F_0n⟩
theorem t_1k:OkE t_g:=adE t_1j h_d (by kernel_rfl) fun x=>by unfold F_0n;rfl
def h_e:FH:=⟨[],[],[],[]⟩
@[irreducible] noncomputable def F_0o (x:DenL [.int]):Option (DenL [z3,.int]):=xf t_g h_e 67 x
noncomputable def t_h:EE:=t_g.ad 67 ⟨_,_,F_0o⟩
theorem t_1l:OkE t_h:=adE t_1k h_e (by kernel_rfl) fun x=>by unfold F_0o;rfl
def h_f:FH:=⟨[(5,(lineT [0,1,2,3,4,5,6] [7,8],[]))],[],[],[]⟩
@[irreducible] noncomputable def F_a (x:DenL [z2]):Option (DenL [z5,.int]):=xfun Tryz.prog { EN with soonM:=[44] } t_h h_f 32 [z2] [z5,.int] x
noncomputable def s_D:ESm:=⟨[z2],[z5,.int],F_a⟩
noncomputable def t_5:EE:=t_h.ad 32 s_D
theorem t_1m:t_5.toD.Oks Sxz.env Tryz.prog txn.Most { EN with soonM:=[44] }:=EE.add_ok (EE.withM t_1l [44]) rfl hB (by kernel_rfl) (H:=h_f) (congrArg (ESm.mk _ _) (funext fun x=>by unfold F_a;rfl))
theorem t_1n:OkE t_5:=EE.outM (E':=EN) [44] t_1m
def h_g:FH:=⟨[],[],[],[]⟩
@[irreducible] noncomputable def F_x (x:DenL [z0]):Option (DenL [.bool]):=xf t_5 h_g 68 x
noncomputable def t_i:EE:=t_5.ad 68 ⟨_,_,F_x⟩
theorem t_1o:OkE t_i:=adE t_1n h_g (by kernel_rfl) fun x=>by unfold F_x;rfl
def h_h:FH:=⟨[],[(6,⟨[.share 4],0,⟨[.any,.p 0 0,.any,.any,.d (.row .int),.d .str,.d .int]++an 32 [],[some ([.d z0],26)],[]⟩,[(.exit 0,⟨[.any,.p 0 0]++an 3 ([.d .str]++an 33 []),[some ([.d z0],26)],[]⟩)]⟩)],[],[]⟩
@[irreducible] noncomputable def F_b (x:DenL [z0]):Option (DenL [.str,.bool]):=xf t_i h_h 33 x
noncomputable def t_j:EE:=t_i.ad 33 ⟨_,_,F_b⟩
theorem t_1p:OkE t_j:=adE t_1o h_h (by kernel_rfl) fun x=>by unfold F_b;rfl
def h_i:FH:=⟨[],[],[],[]⟩
@[irreducible] noncomputable def F_c (x:DenL [z8]):Option (DenL [z11]):=xf t_j h_i 34 x
noncomputable def t_k:EE:=t_j.ad 34 ⟨_,_,F_c⟩
theorem t_1q:OkE t_k:=adE t_1p h_i (by kernel_rfl) fun x=>by unfold F_c;rfl
def h_j:FH:=⟨[],[],[],[]⟩
@[irreducible] noncomputable def F_k (x:DenL [.int,.int,.int]):Option (DenL [.bool]):=xf t_k h_j 156 x
noncomputable def t_l:EE:=t_k.ad 156 ⟨_,_,F_k⟩
theorem t_1r:OkE t_l:=adE t_1q h_j (by kernel_rfl) fun x=>by unfold F_k;rfl
def h_k:FH:=⟨[],[(3,⟨[],0,⟨[.any,.p 0 0,.any,.d .int]++an 5 ([.d (.row z0),.d .int,.d .int]++an 23 []),[some ([.d z1],90)],[]⟩,[(.ret,⟨[.any,.any,.d .bool]++an 32 [],[],[]⟩),(.exit 0,⟨an 35 [],[],[]⟩)]⟩)],[],[]⟩
@[irreducible] noncomputable def F_Y (x:DenL [z1]):Option (DenL [.bool]):=xf t_l h_k 157 x
noncomputable def t_m:EE:=t_l.ad 157 ⟨_,_,F_Y⟩
theorem t_1s:OkE t_m:=adE t_1r h_k (by kernel_rfl) fun x=>by unfold F_Y;rfl
def h_l:FH:=⟨[],[],[],[]⟩
@[irreducible] noncomputable def F_l (x:DenL [z1,.int]):Option (DenL [.bool]):=xf t_m h_l 130 x
noncomputable def t_n:EE:=t_m.ad 130 ⟨_,_,F_l⟩
theorem t_1t:OkE t_n:=adE t_1s h_l (by kernel_rfl) fun x=>by unfold F_l;rfl
def h_m:FH:=⟨[],[],[],[]⟩
@[irreducible] noncomputable def F_y (x:DenL [z1]):Option (DenL [.bool]):=xf t_n h_m 131 x
noncomputable def t_o:EE:=t_n.ad 131 ⟨_,_,F_y⟩
theorem t_1u:OkE t_o:=adE t_1t h_m (by kernel_rfl) fun x=>by unfold F_y;rfl
def h_n:FH:=⟨[(6,(line [0,1,2,3,4,5,6,7,8,9,10,11,12,13],[]))],[(4,⟨[],0,⟨[.any,.d .int,.any,.p 0 0,.any,.p 1 0]++an 12 ([.d (.row z1),.d .int,.d .int]++an 37 []),[some ([.d z4],112),some ([.d z2],34)],[]⟩,[(.ret,⟨an 6 ([.d .bool]++an 51 []),[],[]⟩),(.exit 0,⟨an 58 [],[],[]⟩)]⟩)],[],[]⟩
@[irreducible] noncomputable def F_z (x:DenL [z4,.int,z2]):Option (DenL [.bool]):=xf t_o h_n 90 x
noncomputable def t_p:EE:=t_o.ad 90 ⟨_,_,F_z⟩
theorem t_1v:OkE t_p:=adE t_1u h_n (by kernel_rfl) fun x=>by unfold F_z;rfl
def h_o:FH:=⟨[(7,(line [0,1,2,3,4,5,6,7,8,9,10,11,12,13,14,15,16,17],[]))],[(5,⟨[],0,⟨[.any,.p 0 0]++an 24 ([.d .int,.d .int]++an 43 []),[some ([.d z5],46)],[]⟩,[(.ret,⟨[.any,.any,.d .bool]++an 68 [],[],[]⟩),(.exit 0,⟨[.any,.p 0 0]++an 69 [],[some ([.d z5],46)],[]⟩)]⟩)],[],[]⟩
@[irreducible] noncomputable def F_A (x:DenL [z5]):Option (DenL [.bool]):=xf t_p h_o 48 x
noncomputable def t_q:EE:=t_p.ad 48 ⟨_,_,F_A⟩
theorem t_1w:OkE t_q:=adE t_1v h_o (by kernel_rfl) fun x=>by unfold F_A;rfl
def h_r:FH:=⟨[],[],[],[]⟩
@[irreducible] noncomputable def F_m (x:DenL [(.row .int),.int]):Option (DenL [.bool]):=xf t_q h_r 91 x
noncomputable def t_r:EE:=t_q.ad 91 ⟨_,_,F_m⟩
theorem t_1x:OkE t_r:=adE t_1w h_r (by kernel_rfl) fun x=>by unfold F_m;rfl
def h_s:FH:=⟨[],[],[],[]⟩
@[irreducible] noncomputable def F_f (x:DenL [(.row .int),.int]):Option (DenL [.bool]):=xf t_r h_s 49 x
noncomputable def t_s:EE:=t_r.ad 49 ⟨_,_,F_f⟩
theorem t_1y:OkE t_s:=adE t_1x h_s (by kernel_rfl) fun x=>by unfold F_f;rfl
def h_t:FH:=⟨[],[],[],[]⟩
@[irreducible] noncomputable def F_0p (x:DenL [z11,z5]):Option (DenL [.int]):=xf t_s h_t 112 x
noncomputable def t_t:EE:=t_s.ad 112 ⟨_,_,F_0p⟩
theorem t_1z:OkE t_t:=adE t_1y h_t (by kernel_rfl) fun x=>by unfold F_0p;rfl
def h_v:FH:=⟨[],[(2,⟨[],0,⟨[.d (.row .int),.d .int]++an 5 ([.d .int,.d .int]++an 10 []),[],[]⟩,[(.ret,⟨an 4 ([.d .int]++an 14 []),[],[]⟩),(.exit 0,⟨an 19 [],[],[]⟩)]⟩)],[],[]⟩
@[irreducible] noncomputable def F_Z (x:DenL [(.row .int),.int]):Option (DenL [.int]):=xf t_t h_v 94 x
noncomputable def t_u:EE:=t_t.ad 94 ⟨_,_,F_Z⟩
theorem t_1A:OkE t_u:=adE t_1z h_v (by kernel_rfl) fun x=>by unfold F_Z;rfl
def h_w:FH:=⟨[],[],[],[]⟩
@[irreducible] noncomputable def F_00 (x:DenL [(.row .int),.int]):Option (DenL [.bool]):=xf t_u h_w 51 x
noncomputable def t_v:EE:=t_u.ad 51 ⟨_,_,F_00⟩
theorem t_1B:OkE t_v:=adE t_1A h_w (by kernel_rfl) fun x=>by unfold F_00;rfl
def h_x:FH:=⟨[],[],[],[]⟩
@[irreducible] noncomputable def F_n (x:DenL [.int]):Option (DenL [.bool]):=xf t_v h_x 133 x
noncomputable def t_w:EE:=t_v.ad 133 ⟨_,_,F_n⟩
theorem t_1C:OkE t_w:=adE t_1B h_x (by kernel_rfl) fun x=>by unfold F_n;rfl
def h_A:FH:=⟨[],[],[],[]⟩
@[irreducible] noncomputable def F_o (x:DenL [(.row .int),.int,.int]):Option (DenL [.bool]):=xf t_w h_A 95 x
noncomputable def t_x:EE:=t_w.ad 95 ⟨_,_,F_o⟩
theorem t_1D:OkE t_x:=adE t_1C h_A (by kernel_rfl) fun x=>by unfold F_o;rfl
def h_B:FH:=⟨[],[],[],[]⟩
@[irreducible] noncomputable def F_01 (x:DenL [(.row .int),.int,.int]):Option (DenL [.bool]):=xf t_x h_B 93 x
noncomputable def t_4:EE:=t_x.ad 93 ⟨_,_,F_01⟩
theorem t_1E:OkE t_4:=adE t_1D h_B (by kernel_rfl) fun x=>by unfold F_01;rfl
def h_0:FH:=⟨[],[(2,⟨[],0,⟨[.d (.row .int),.any,.d .int,.d (.num 7)]++an 5 ([.d .int]++an 15 []),[],[]⟩,[(.ret,⟨an 8 ([.d .int]++an 16 []),[],[]⟩),(.exit 0,⟨[.d (.row .int)]++an 24 [],[],[]⟩)]⟩)],[],[]⟩
@[irreducible] noncomputable def F_d (x:DenL [(.row .int),.int,.int,(.num 7)]):Option (DenL [.int]):=xf t_4 h_0 92 x
noncomputable def t_y:EE:=t_4.ad 92 ⟨_,_,F_d⟩
theorem t_1F:OkE t_y:=adE t_1E h_0 (by kernel_rfl) fun x=>by unfold F_d;rfl
def h_C:FH:=⟨[],[(3,⟨[.slot 5 3 .int],0,⟨[.d (.row .int),.d .int]++an 3 ([.r 0,.d .int]++an 17 []),[],[some (3,1,.int)]⟩,[(.exit 0,⟨an 5 ([.r 0]++an 18 []),[],[some (3,1,.int)]⟩)]⟩)],[],[]⟩
@[irreducible] noncomputable def F_02 (x:DenL [(.row .int),.int]):Option (DenL [(.row .int)]):=xf t_y h_C 52 x
noncomputable def t_z:EE:=t_y.ad 52 ⟨_,_,F_02⟩
theorem t_1G:OkE t_z:=adE t_1F h_C (by kernel_rfl) fun x=>by unfold F_02;rfl
def h_D:FH:=⟨[(7,(line [0,1,2,3,4,5,6],[])),(12,(line [0,1,2,4,5,3,6,7,8],[]))],[],[],[]⟩
@[irreducible] noncomputable def F_0q (x:DenL [z11,.int,z5]):Option (DenL [.bool]):=xf t_z h_D 71 x
noncomputable def t_A:EE:=t_z.ad 71 ⟨_,_,F_0q⟩
theorem t_1H:OkE t_A:=adE t_1G h_D (by kernel_rfl) fun x=>by unfold F_0q;rfl
def h_E:FH:=⟨[],[],[],[]⟩
@[irreducible] noncomputable def F_0r (x:DenL []):Option (DenL [z12]):=xf t_A h_E 72 x
noncomputable def t_B:EE:=t_A.ad 72 ⟨_,_,F_0r⟩
theorem t_1I:OkE t_B:=adE t_1H h_E (by kernel_rfl) fun x=>by unfold F_0r;rfl
def h_F:FH:=⟨[],[],[],[]⟩
@[irreducible] noncomputable def F_0s (x:DenL [z11]):Option (DenL [z11]):=xf t_B h_F 73 x
noncomputable def t_C:EE:=t_B.ad 73 ⟨_,_,F_0s⟩
theorem t_1J:OkE t_C:=adE t_1I h_F (by kernel_rfl) fun x=>by unfold F_0s;rfl
def h_G:FH:=⟨[],[(4,⟨[],0,⟨[.any,.p 0 0,.p 1 0]++an 13 ([.d .int,.d .int]++an 33 []),[some ([.d .int,.d .int,.d .int,.d .int,.d .int,.d .int,.d .int,.d .int,.r 0,.d .int,.d .int,.r 1],46),some ([.d z5],46)],[some (3,1,.int),some (112,2,z4)]⟩,[(.exit 0,⟨[.any,.p 0 0,.p 1 0]++an 48 [],[some ([.d .int,.d .int,.d .int,.d .int,.d .int,.d .int,.d .int,.d .int,.r 0,.d .int,.d .int,.r 1],46),some ([.d z5],46)],[some (3,1,.int),some (112,2,z4)]⟩)]⟩),(8,⟨[],0,⟨[.any,.p 0 0,.p 1 0,.d .int,.r 0]++an 11 ([.d .int,.d .int]++an 10 ([.d .int,.d .int]++an 21 [])),[some ([.d .int,.d .int,.d .int,.d .int,.d .int,.d .int,.d .int,.d .int,.r 1,.d .int,.d .int,.r 2],46),some ([.d z5],46)],[some (90,3,z1),some (3,1,.int),some (112,2,z4)]⟩,[(.exit 2,⟨[.any,.p 0 0,.p 1 0,.d .int,.r 0]++an 11 ([.d .int,.d .int]++an 33 []),[some ([.d .int,.d .int,.d .int,.d .int,.d .int,.d .int,.d .int,.d .int,.r 1,.d .int,.d .int,.r 2],46),some ([.d z5],46)],[some (90,3,z1),some (3,1,.int),some (112,2,z4)]⟩)]⟩)],[],[]⟩
@[irreducible] noncomputable def F_0t (x:DenL [z5]):Option (DenL [z5]):=xf t_C h_G 74 x
noncomputable def t_D:EE:=t_C.ad 74 ⟨_,_,F_0t⟩
theorem t_1K:OkE t_D:=adE t_1J h_G (by kernel_rfl) fun x=>by unfold F_0t;rfl
def h_H:FH:=⟨[],[],[],[]⟩
@[irreducible] noncomputable def F_0u (x:DenL [.int]):Option (DenL [.bool]):=xf t_D h_H 181 x
noncomputable def t_E:EE:=t_D.ad 181 ⟨_,_,F_0u⟩
theorem t_1L:OkE t_E:=adE t_1K h_H (by kernel_rfl) fun x=>by unfold F_0u;rfl
def h_I:FH:=⟨[],[],[],[]⟩
@[irreducible] noncomputable def F_0v (x:DenL [z8]):Option (DenL [.int,.bool]):=xf t_E h_I 148 x
noncomputable def t_F:EE:=t_E.ad 148 ⟨_,_,F_0v⟩
theorem t_1M:OkE t_F:=adE t_1L h_I (by kernel_rfl) fun x=>by unfold F_0v;rfl
def h_J:FH:=⟨[],[],[],[]⟩
@[irreducible] noncomputable def F_0w (x:DenL [.int,.int]):Option (DenL [.bool]):=xf t_F h_J 215 x
noncomputable def t_G:EE:=t_F.ad 215 ⟨_,_,F_0w⟩
theorem t_1N:OkE t_G:=adE t_1M h_J (by kernel_rfl) fun x=>by unfold F_0w;rfl
def h_K:FH:=⟨[],[],[],[]⟩
@[irreducible] noncomputable def F_0x (x:DenL [.int,.int]):Option (DenL [.int,.bool]):=xf t_G h_K 201 x
noncomputable def t_H:EE:=t_G.ad 201 ⟨_,_,F_0x⟩
theorem t_1O:OkE t_H:=adE t_1N h_K (by kernel_rfl) fun x=>by unfold F_0x;rfl
def h_L:FH:=⟨[],[],[],[]⟩
@[irreducible] noncomputable def F_0y (x:DenL [.int]):Option (DenL [.int]):=xf t_H h_L 203 x
noncomputable def t_I:EE:=t_H.ad 203 ⟨_,_,F_0y⟩
theorem t_1P:OkE t_I:=adE t_1O h_L (by kernel_rfl) fun x=>by unfold F_0y;rfl
def h_M:FH:=⟨[],[],[],[]⟩
@[irreducible] noncomputable def F_0z (x:DenL [z0]):Option (DenL [.int]):=xf t_I h_M 167 x
noncomputable def t_J:EE:=t_I.ad 167 ⟨_,_,F_0z⟩
theorem t_1Q:OkE t_J:=adE t_1P h_M (by kernel_rfl) fun x=>by unfold F_0z;rfl
def h_N:FH:=⟨[(4,(line [0,2,1,3,4,5,6],[]))],[],[],[]⟩
@[irreducible] noncomputable def F_0A (x:DenL [z0,z0,.int]):Option (DenL [.int,.int]):=xf t_J h_N 166 x
noncomputable def t_K:EE:=t_J.ad 166 ⟨_,_,F_0A⟩
theorem t_1R:OkE t_K:=adE t_1Q h_N (by kernel_rfl) fun x=>by unfold F_0A;rfl
def h_O:FH:=⟨[],[],[],[]⟩
@[irreducible] noncomputable def F_0B (x:DenL [z1,z0,.int,.int]):Option (DenL [.int,.int]):=xf t_K h_O 137 x
noncomputable def t_L:EE:=t_K.ad 137 ⟨_,_,F_0B⟩
theorem t_1S:OkE t_L:=adE t_1R h_O (by kernel_rfl) fun x=>by unfold F_0B;rfl
def h_P:FH:=⟨[],[(3,⟨[],0,⟨an 3 ([.d .int]++an 3 ([.d (.row z0),.d .int,.d .int]++an 9 [])),[],[]⟩,[(.exit 0,⟨an 3 ([.d .int]++an 15 []),[],[]⟩)]⟩)],[],[]⟩
@[irreducible] noncomputable def F_0C (x:DenL [z1]):Option (DenL [.int]):=xf t_L h_P 168 x
noncomputable def t_M:EE:=t_L.ad 168 ⟨_,_,F_0C⟩
theorem t_1T:OkE t_M:=adE t_1S h_P (by kernel_rfl) fun x=>by unfold F_0C;rfl
def h_Q:FH:=⟨[(1,(lineT [0,1,2,3,4,5,7,10,11,6,8,9,12] [13],[]))],[],[],[]⟩
@[irreducible] noncomputable def F_0D (x:DenL [z1,z1,z6]):Option (DenL [z13]):=xf t_M h_Q 213 x
noncomputable def t_N:EE:=t_M.ad 213 ⟨_,_,F_0D⟩
theorem t_1U:OkE t_N:=adE t_1T h_Q (by kernel_rfl) fun x=>by unfold F_0D;rfl
def h_R:FH:=⟨[],[(2,⟨[.cell 3 5 149 z9],0,⟨[.any,.d .int,.any,.p 0 0,.any,.any,.p 1 0,.any,.any,.d (.row z0),.d .int,.d .int]++an 14 [],[some ([.d .bool,.d .int,.d .int,.d .int,.d (.row z0),.r 0,.d .int,.d .int,.d .int,.d .int,.d .int,.d .int,.d .str,.d (.row z0),.d .int],92),some ([.d z10],92)],[some (149,8,z9)]⟩,[(.exit 0,⟨an 3 ([.p 0 0,.any,.any,.p 1 0]++an 19 []),[some ([.d .bool,.d .int,.d .int,.d .int,.d (.row z0),.r 0,.d .int,.d .int,.d .int,.d .int,.d .int,.d .int,.d .str,.d (.row z0),.d .int],92),some ([.d z10],92)],[some (149,8,z9)]⟩)]⟩)],[],[]⟩
@[irreducible] noncomputable def F_0E (x:DenL [z13,.int,(.row z0)]):Option (DenL [z10]):=xf t_N h_R 214 x
noncomputable def t_O:EE:=t_N.ad 214 ⟨_,_,F_0E⟩
theorem t_1V:OkE t_O:=adE t_1U h_R (by kernel_rfl) fun x=>by unfold F_0E;rfl
def h_S:FH:=⟨[],[],[],[]⟩
@[irreducible] noncomputable def F_0F (x:DenL [.int]):Option (DenL [z10]):=xf t_O h_S 186 x
noncomputable def t_P:EE:=t_O.ad 186 ⟨_,_,F_0F⟩
theorem t_1W:OkE t_P:=adE t_1V h_S (by kernel_rfl) fun x=>by unfold F_0F;rfl
def h_T:FH:=⟨[(11,(ones [0,1,2,4,6,7] (.fork 3 (.fork 5 (lineT [8,9] [10]) 8 (lineT [5,9] [10])) 8 (lineT [3,5,9] [10])),[]))],[],[],[(11,⟨an 6 ([.p 0 0]++an 47 []),[some ([.d z10],92)],[]⟩)]⟩
@[irreducible] noncomputable def F_0G (x:DenL [z2,z1,.str]):Option (DenL [z10]):=xf t_P h_T 182 x
noncomputable def t_Q:EE:=t_P.ad 182 ⟨_,_,F_0G⟩
theorem t_1X:OkE t_Q:=adE t_1W h_T (by kernel_rfl) fun x=>by unfold F_0G;rfl
def h_U:FH:=⟨[(4,(ones [0,1,2,4,5,7] (.fork 3 (.fork 6 (lineT [8,9] [10]) 8 (lineT [6,9] [10])) 8 (lineT [3,6,9] [10])),[]))],[],[],[(4,⟨an 4 ([.p 0 0]++an 21 []),[some ([.d z10],92)],[]⟩)]⟩
@[irreducible] noncomputable def F_0H (x:DenL [z1,.int]):Option (DenL [z10]):=xf t_Q h_U 183 x
noncomputable def t_R:EE:=t_Q.ad 183 ⟨_,_,F_0H⟩
theorem t_1Y:OkE t_R:=adE t_1X h_U (by kernel_rfl) fun x=>by unfold F_0H;rfl
def h_V:FH:=⟨[],[],[],[]⟩
@[irreducible] noncomputable def F_0I (x:DenL [.int,.int]):Option (DenL [.int]):=xf t_R h_V 173 x
noncomputable def t_S:EE:=t_R.ad 173 ⟨_,_,F_0I⟩
theorem t_1Z:OkE t_S:=adE t_1Y h_V (by kernel_rfl) fun x=>by unfold F_0I;rfl
def h_W:FH:=⟨[],[(7,⟨[.slot 8 26 z0,.slot 9 26 z0],0,⟨[.any,.d .int,.p 0 0,.any,.p 1 0]++an 3 ([.r 0,.r 1]++an 15 ([.d (.row z0),.d .int,.d .int]++an 22 [])),[some ([.d z1],90),some ([.d z1],90)],[some (26,6,z0),some (26,6,z0)]⟩,[(.exit 0,⟨[.any,.d .int,.p 0 0,.any,.p 1 0]++an 3 ([.r 0,.r 1]++an 40 []),[some ([.d z1],90),some ([.d z1],90)],[some (26,6,z0),some (26,6,z0)]⟩)]⟩)],[],[]⟩
@[irreducible] noncomputable def F_0J (x:DenL [z1,.int]):Option (DenL [z1,(.row z0),.int]):=xf t_S h_W 144 x
noncomputable def t_T:EE:=t_S.ad 144 ⟨_,_,F_0J⟩
theorem t_20:OkE t_T:=adE t_1Z h_W (by kernel_rfl) fun x=>by unfold F_0J;rfl
def h_X:FH:=⟨[],[],[],[]⟩
@[irreducible] noncomputable def F_0K (x:DenL [z1,.int]):Option (DenL [z10]):=xf t_T h_X 184 x
noncomputable def t_U:EE:=t_T.ad 184 ⟨_,_,F_0K⟩
theorem t_21:OkE t_U:=adE t_20 h_X (by kernel_rfl) fun x=>by unfold F_0K;rfl
def h_Y:FH:=⟨[],[],[],[]⟩
@[irreducible] noncomputable def F_0L (x:DenL [z1,.int]):Option (DenL [z10]):=xf t_U h_Y 185 x
noncomputable def t_V:EE:=t_U.ad 185 ⟨_,_,F_0L⟩
theorem t_22:OkE t_V:=adE t_21 h_Y (by kernel_rfl) fun x=>by unfold F_0L;rfl
def h_Z:FH:=⟨[],[],[],[]⟩
@[irreducible] noncomputable def F_0M (x:DenL [z2,z1,z8]):Option (DenL [z10]):=xf t_V h_Z 149 x
noncomputable def t_W:EE:=t_V.ad 149 ⟨_,_,F_0M⟩
theorem t_23:OkE t_W:=adE t_22 h_Z (by kernel_rfl) fun x=>by unfold F_0M;rfl
def h_00:FH:=⟨[(4,(line [0,1,2,3,4,5],[2,3])),(7,(line [0,1,2,3,4,5],[2,3]))],[],[],[]⟩
@[irreducible] noncomputable def F_0N (x:DenL [z11,.int,z5]):Option (DenL [z11,z5,(.row z9),.bool]):=xf t_W h_00 113 x
noncomputable def t_X:EE:=t_W.ad 113 ⟨_,_,F_0N⟩
theorem t_24:OkE t_X:=adE t_23 h_00 (by kernel_rfl) fun x=>by unfold F_0N;rfl
def h_01:FH:=⟨[],[],[],[]⟩
@[irreducible] noncomputable def F_B (x:DenL [(.row .int),.int,.int]):Option (DenL [(.row .int)]):=xf t_X h_01 154 x
noncomputable def t_Y:EE:=t_X.ad 154 ⟨_,_,F_B⟩
theorem t_25:OkE t_Y:=adE t_24 h_01 (by kernel_rfl) fun x=>by unfold F_B;rfl
def h_02:FH:=⟨[],[],[],[]⟩
@[irreducible] noncomputable def F_03 (x:DenL [(.row .int),.int,.int]):Option (DenL [(.row .int),.int]):=xf t_Y h_02 125 x
noncomputable def t_Z:EE:=t_Y.ad 125 ⟨_,_,F_03⟩
theorem t_26:OkE t_Z:=adE t_25 h_02 (by kernel_rfl) fun x=>by unfold F_03;rfl
def h_03:FH:=⟨[(1,(lineT [0,1,2,3,5,4,6,7,8,9,10] [11],[])),(3,(line [0,1,2,3,4,5],[2,3]))],[],[],[]⟩
@[irreducible] noncomputable def F_0O (x:DenL [z11,.int,z5]):Option (DenL [z11,z5,(.row z9),.bool]):=xf t_Z h_03 114 x
noncomputable def t_00:EE:=t_Z.ad 114 ⟨_,_,F_0O⟩
theorem t_27:OkE t_00:=adE t_26 h_03 (by kernel_rfl) fun x=>by unfold F_0O;rfl
def h_04:FH:=⟨[(1,(ones [0,1,2,3,7,8] (.fork 4 (ones [5,6] (.fork 9 (lineT [10] [11]) 10 (lineT [9] [11]))) 10 (lineT [4,5,6,9] [11])),[])),(5,(line [0,1,2,3,4,5],[2,3])),(7,(line [0,1,2,3,4,5],[2,3]))],[],[],[(1,⟨an 3 ([.p 0 0,.any,.p 1 0,.p 2 0,.p 3 0,.any,.any,.p 4 0]++an 30 []),[some ([.d z11],94),some ([.d z5],46),some ([.d z11],94),some ([.d z5],46),some ([.d z1],90)],[]⟩)]⟩
@[irreducible] noncomputable def F_0P (x:DenL [z11,.int,z5]):Option (DenL [z11,z5,(.row z9),.bool]):=xf t_00 h_04 115 x
noncomputable def t_01:EE:=t_00.ad 115 ⟨_,_,F_0P⟩
theorem t_28:OkE t_01:=adE t_27 h_04 (by kernel_rfl) fun x=>by unfold F_0P;rfl
def h_05:FH:=⟨[],[],[],[]⟩
@[irreducible] noncomputable def F_0Q (x:DenL [z10]):Option (DenL [z6]):=xf t_01 h_05 151 x
noncomputable def t_02:EE:=t_01.ad 151 ⟨_,_,F_0Q⟩
theorem t_29:OkE t_02:=adE t_28 h_05 (by kernel_rfl) fun x=>by unfold F_0Q;rfl
def h_06:FH:=⟨[(4,(line [0,1,2,3,4,5],[2,3])),(7,(line [0,1,2,3,4,5,6,7,8],[2,3]))],[],[],[]⟩
@[irreducible] noncomputable def F_0R (x:DenL [z11,.int,z5]):Option (DenL [z11,z5,(.row z9),.bool]):=xf t_02 h_06 116 x
noncomputable def t_03:EE:=t_02.ad 116 ⟨_,_,F_0R⟩
theorem t_2a:OkE t_03:=adE t_29 h_06 (by kernel_rfl) fun x=>by unfold F_0R;rfl
def h_07:FH:=⟨[],[],[],[]⟩
@[irreducible] noncomputable def F_0S (x:DenL [z1]):Option (DenL [z1]):=xf t_03 h_07 165 x
noncomputable def t_04:EE:=t_03.ad 165 ⟨_,_,F_0S⟩
theorem t_2b:OkE t_04:=adE t_2a h_07 (by kernel_rfl) fun x=>by unfold F_0S;rfl
def h_08:FH:=⟨[],[(3,⟨[],0,⟨[.d (.row (.row z1)),.any,.any,.d .int]++an 5 ([.d (.row (.row z1)),.d .int,.d .int]++an 24 []),[],[]⟩,[(.exit 0,⟨[.d (.row (.row z1)),.any,.any,.d .int]++an 32 [],[],[]⟩)]⟩),(11,⟨[],0,⟨an 6 ([.r 0]++an 18 ([.d (.row (.row z1)),.d .int,.d .int]++an 8 [])),[],[some (90,3,z1)]⟩,[(.exit 2,⟨an 6 ([.r 0]++an 29 []),[],[some (90,3,z1)]⟩)]⟩)],[],[]⟩
@[irreducible] noncomputable def F_0T (x:DenL [(.row (.row z1))]):Option (DenL [(.row z1)]):=xf t_04 h_08 190 x
noncomputable def t_05:EE:=t_04.ad 190 ⟨_,_,F_0T⟩
theorem t_2c:OkE t_05:=adE t_2b h_08 (by kernel_rfl) fun x=>by unfold F_0T;rfl
def h_09:FH:=⟨[],[],[],[]⟩
@[irreducible] noncomputable def F_0U (x:DenL [.int]):Option (DenL [.int]):=xf t_05 h_09 191 x
noncomputable def t_06:EE:=t_05.ad 191 ⟨_,_,F_0U⟩
theorem t_2d:OkE t_06:=adE t_2c h_09 (by kernel_rfl) fun x=>by unfold F_0U;rfl
def h_0a:FH:=⟨[(12,(lineT [0,1,4,5,2,3,6,7] [8],[]))],[(3,⟨[.slot 6 90 z1,.slot 5 90 z1],0,⟨[.any,.any,.p 0 0,.p 1 0,.p 2 0,.r 0,.r 1]++an 3 ([.d (.row z1),.d .int,.d .int]++an 45 []),[some ([.d z4],112),some ([.d z1],90),some ([.d z4],112)],[some (90,3,z1),some (90,3,z1)]⟩,[(.exit 0,⟨[.any,.any,.p 0 0,.p 1 0,.p 2 0,.r 0,.r 1]++an 51 [],[some ([.d z4],112),some ([.d z1],90),some ([.d z4],112)],[some (90,3,z1),some (90,3,z1)]⟩)]⟩)],[(12,[0,1])],[]⟩
@[irreducible] noncomputable def F_0V (x:DenL [z4,z1]):Option (DenL [z4]):=xf t_06 h_0a 152 x
noncomputable def t_07:EE:=t_06.ad 152 ⟨_,_,F_0V⟩
theorem t_2e:OkE t_07:=adE t_2d h_0a (by kernel_rfl) fun x=>by unfold F_0V;rfl
def h_0b:FH:=⟨[(3,(lineT [0,1,2,3,4,5,6,7,8,9,10,11,12] [13],[])),(5,(line [0,1,2,3,4,5],[2,3]))],[],[(5,[0])],[]⟩
@[irreducible] noncomputable def F_0W (x:DenL [z11,.int,z5]):Option (DenL [z11,z5,(.row z9),.bool]):=xf t_07 h_0b 117 x
noncomputable def t_08:EE:=t_07.ad 117 ⟨_,_,F_0W⟩
theorem t_2f:OkE t_08:=adE t_2e h_0b (by kernel_rfl) fun x=>by unfold F_0W;rfl
def h_0c:FH:=⟨[],[],[],[]⟩
@[irreducible] noncomputable def F_04 (x:DenL [(.row .int),.int,.int]):Option (DenL [(.row .int),.int]):=xf t_08 h_0c 126 x
noncomputable def t_09:EE:=t_08.ad 126 ⟨_,_,F_04⟩
theorem t_2g:OkE t_09:=adE t_2f h_0c (by kernel_rfl) fun x=>by unfold F_04;rfl
def h_0d:FH:=⟨[(1,(lineT [0,1,2,3,5,4,6,7,8,9,10] [11],[])),(3,(line [0,1,2,3,4,5],[2,3]))],[],[],[]⟩
@[irreducible] noncomputable def F_0X (x:DenL [z11,.int,z5]):Option (DenL [z11,z5,(.row z9),.bool]):=xf t_09 h_0d 118 x
noncomputable def t_0a:EE:=t_09.ad 118 ⟨_,_,F_0X⟩
theorem t_2h:OkE t_0a:=adE t_2g h_0d (by kernel_rfl) fun x=>by unfold F_0X;rfl
def h_0e:FH:=⟨[(4,(lineT [1,2,4,5,6,0,3,7,8,9,10,11,12] [13,14,15,16],[])),(6,(lineT [0,2,4,6,1,3,5] [7,8,9,10],[]))],[],[],[]⟩
@[irreducible] noncomputable def F_5 (x:DenL [z11,.int,z5]):Option (DenL [z11,z5,(.row z9),.bool]):=xf t_0a h_0e 35 x
noncomputable def t_0b:EE:=t_0a.ad 35 ⟨_,_,F_5⟩
theorem t_2i:OkE t_0b:=adE t_2h h_0e (by kernel_rfl) fun x=>by unfold F_5;rfl
def h_0f:FH:=⟨[],[],[],[]⟩
@[irreducible] noncomputable def F_05 (x:DenL [(.row .int),.int]):Option (DenL [.int]):=xf t_0b h_0f 50 x
noncomputable def t_0c:EE:=t_0b.ad 50 ⟨_,_,F_05⟩
theorem t_2j:OkE t_0c:=adE t_2i h_0f (by kernel_rfl) fun x=>by unfold F_05;rfl
def h_0g:FH:=⟨[(11,(line [0,1,2,4,5,6,3,7,8],[])),(13,(line [0,1,2,4,5,3,6,7],[]))],[],[],[]⟩
@[irreducible] noncomputable def F_9 (x:DenL [z7,.int,z5]):Option (DenL [.bool]):=xf t_0c h_0g 22 x
noncomputable def s_h:ESm:=⟨[z7,.int,z5],[.bool],F_9⟩
noncomputable def t_0d:EE:=t_0c.ad 22 s_h
theorem t_2k:OkE t_0d:=adE t_2j h_0g (by kernel_rfl) fun x=>by unfold F_9;rfl
def h_0h:FH:=⟨[],[(3,⟨[],0,⟨[.r 0]++an 8 ([.d .int,.d .int]++an 31 []),[],[some (112,2,z4)]⟩,[(.exit 0,⟨[.r 0]++an 41 [],[],[some (112,2,z4)]⟩)]⟩),(7,⟨[],0,⟨[.r 0,.any,.any,.d .int,.r 1]++an 4 ([.d .int,.d .int]++an 9 ([.d .int,.d .int]++an 20 [])),[],[some (112,2,z4),some (90,3,z1)]⟩,[(.exit 2,⟨[.r 0,.any,.any,.d .int,.r 1]++an 4 ([.d .int,.d .int]++an 31 []),[],[some (112,2,z4),some (90,3,z1)]⟩)]⟩)],[],[]⟩
@[irreducible] noncomputable def F_C (x:DenL [(.row z4)]):Option (DenL [(.row z4)]):=xf t_0d h_0h 83 x
noncomputable def t_0e:EE:=t_0d.ad 83 ⟨_,_,F_C⟩
theorem t_2l:OkE t_0e:=adE t_2k h_0h (by kernel_rfl) fun x=>by unfold F_C;rfl
def h_0i:FH:=⟨[],[],[],[]⟩
@[irreducible] noncomputable def F_D (x:DenL [z7]):Option (DenL [z7]):=xf t_0e h_0i 38 x
noncomputable def s_f:ESm:=⟨[z7],[z7],F_D⟩
noncomputable def t_0f:EE:=t_0e.ad 38 s_f
theorem t_2m:OkE t_0f:=adE t_2l h_0i (by kernel_rfl) fun x=>by unfold F_D;rfl
def h_0j:FH:=⟨[],[],[],[]⟩
@[irreducible] noncomputable def F_E (x:DenL [z5]):Option (DenL [z5]):=xf t_0f h_0j 39 x
noncomputable def s_g:ESm:=⟨[z5],[z5],F_E⟩
noncomputable def t_0g:EE:=t_0f.ad 39 s_g
theorem t_2n:OkE t_0g:=adE t_2m h_0j (by kernel_rfl) fun x=>by unfold F_E;rfl
def h_0k:FH:=⟨[],[],[],[]⟩
@[irreducible] noncomputable def F_3 (x:DenL [.int]):Option (DenL [z7]):=xf t_0g h_0k 24 x
noncomputable def t_0h:EE:=t_0g.ad 24 ⟨_,_,F_3⟩
theorem t_2o:OkE t_0h:=adE t_2n h_0k (by kernel_rfl) fun x=>by unfold F_3;rfl
def h_0l:FH:=⟨[],[(3,⟨[.slot 3 112 z4],0,⟨[.d (.row z4),.any,.any,.r 0,.d .int]++an 14 [],[],[some (112,2,z4)]⟩,[(.exit 0,⟨an 3 ([.r 0]++an 15 []),[],[some (112,2,z4)]⟩)]⟩)],[],[]⟩
@[irreducible] noncomputable def F_F (x:DenL [(.row z4)]):Option (DenL [(.row z4)]):=xf t_0h h_0l 36 x
noncomputable def t_0i:EE:=t_0h.ad 36 ⟨_,_,F_F⟩
theorem t_2p:OkE t_0i:=adE t_2o h_0l (by kernel_rfl) fun x=>by unfold F_F;rfl
def h_0m:FH:=⟨[(1,(lineT [0,1,2,3,4,5,6,7,8,9] [10],[]))],[],[],[]⟩
@[irreducible] noncomputable def F_4 (x:DenL [z5]):Option (DenL [z5]):=xf t_0i h_0m 12 x
noncomputable def t_0j:EE:=t_0i.ad 12 ⟨_,_,F_4⟩
theorem t_2q:OkE t_0j:=adE t_2p h_0m (by kernel_rfl) fun x=>by unfold F_4;rfl
def h_0n:FH:=⟨[(1,(lineT [0,1,2,3,4,5,6,7,8,9,10,11,13,14,12,15] [16],[]))],[],[],[]⟩
@[irreducible] noncomputable def F_6 (x:DenL [z7]):Option (DenL [z7]):=xf t_0j h_0n 14 x
noncomputable def t_0k:EE:=t_0j.ad 14 ⟨_,_,F_6⟩
theorem t_2r:OkE t_0k:=adE t_2q h_0n (by kernel_rfl) fun x=>by unfold F_6;rfl
def h_0o:FH:=⟨[(6,(line [0,1,2,3,4,5,6,7,8],[]))],[(4,⟨[],0,⟨[.d (.row .int),.d (.row .int)]++an 3 ([.d .int]++an 20 []),[],[]⟩,[(.ret,⟨an 4 ([.d .bool]++an 21 []),[],[]⟩),(.exit 0,⟨an 26 [],[],[]⟩)]⟩)],[],[]⟩
@[irreducible] noncomputable def F_G (x:DenL [(.row .int),(.row .int)]):Option (DenL [.bool]):=xf t_0k h_0o 46 x
noncomputable def t_0l:EE:=t_0k.ad 46 ⟨_,_,F_G⟩
theorem t_2s:OkE t_0l:=adE t_2r h_0o (by kernel_rfl) fun x=>by unfold F_G;rfl
def h_0p:FH:=⟨[(6,(line [0,1,2,3,4,5,6,7,8],[]))],[(4,⟨[],0,⟨[.d (.row z0),.d (.row z0)]++an 3 ([.d .int]++an 20 []),[],[]⟩,[(.ret,⟨an 4 ([.d .bool]++an 21 []),[],[]⟩),(.exit 0,⟨an 26 [],[],[]⟩)]⟩)],[],[]⟩
@[irreducible] noncomputable def F_H (x:DenL [(.row z0),(.row z0)]):Option (DenL [.bool]):=xf t_0l h_0p 63 x
noncomputable def t_0m:EE:=t_0l.ad 63 ⟨_,_,F_H⟩
theorem t_2t:OkE t_0m:=adE t_2s h_0p (by kernel_rfl) fun x=>by unfold F_H;rfl
def h_0q:FH:=⟨[],[],[],[]⟩
@[irreducible] noncomputable def F_I (x:DenL [z1,z1]):Option (DenL [.bool]):=xf t_0m h_0q 129 x
noncomputable def t_0n:EE:=t_0m.ad 129 ⟨_,_,F_I⟩
theorem t_2u:OkE t_0n:=adE t_2t h_0q (by kernel_rfl) fun x=>by unfold F_I;rfl
def h_0r:FH:=⟨[(6,(line [0,1,2,3,4,5,6,7,8,9],[]))],[(4,⟨[],0,⟨[.d (.row z1),.d (.row z1)]++an 3 ([.d .int]++an 21 []),[],[]⟩,[(.ret,⟨an 4 ([.d .bool]++an 22 []),[],[]⟩),(.exit 0,⟨an 27 [],[],[]⟩)]⟩)],[],[]⟩
@[irreducible] noncomputable def F_06 (x:DenL [(.row z1),(.row z1)]):Option (DenL [.bool]):=xf t_0n h_0r 89 x
noncomputable def t_0o:EE:=t_0n.ad 89 ⟨_,_,F_06⟩
theorem t_2v:OkE t_0o:=adE t_2u h_0r (by kernel_rfl) fun x=>by unfold F_06;rfl
def h_0s:FH:=⟨[],[],[],[]⟩
@[irreducible] noncomputable def F_g (x:DenL [z4,z4]):Option (DenL [.bool]):=xf t_0o h_0s 47 x
noncomputable def t_0p:EE:=t_0o.ad 47 ⟨_,_,F_g⟩
theorem t_2w:OkE t_0p:=adE t_2v h_0s (by kernel_rfl) fun x=>by unfold F_g;rfl
def h_0t:FH:=⟨[(6,(line [0,1,2,3,4,5,6,7,8,9,10,11],[]))],[(4,⟨[],0,⟨[.any,.any,.p 0 0,.p 1 0,.any,.d .int]++an 48 [],[some ([.d z5],38),some ([.d z5],38)],[]⟩,[(.ret,⟨an 4 ([.d .bool]++an 49 []),[],[]⟩),(.exit 0,⟨an 54 [],[],[]⟩)]⟩)],[],[]⟩
@[irreducible] noncomputable def F_h (x:DenL [z5,z5]):Option (DenL [.bool]):=xf t_0p h_0t 20 x
noncomputable def t_0q:EE:=t_0p.ad 20 ⟨_,_,F_h⟩
theorem t_2x:OkE t_0q:=adE t_2w h_0t (by kernel_rfl) fun x=>by unfold F_h;rfl
def h_0u:FH:=⟨[(5,(lineT [0,1,2,3,4,5,6,7] [8,9,10],[]))],[(3,⟨[.cell 3 11 84 z4],0,⟨[.any,.p 0 0,.p 1 0,.p 2 0,.d .int]++an 25 [],[some ([.d z5],46),some ([.d z5],38),some ([.d .int,.d .int,.d .int,.d .int,.d .int,.d .int,.d .int,.d .int,.d (.row .int),.d .int,.d .int,.r 0],38)],[some (84,2,z4)]⟩,[(.exit 0,⟨[.any,.any,.p 0 0,.p 1 0]++an 26 [],[some ([.d z5],38),some ([.d .int,.d .int,.d .int,.d .int,.d .int,.d .int,.d .int,.d .int,.d (.row .int),.d .int,.d .int,.r 0],38)],[some (84,2,z4)]⟩)]⟩)],[],[]⟩
@[irreducible] noncomputable def F_p (x:DenL [z5]):Option (DenL [z5]):=xf t_0q h_0u 21 x
noncomputable def t_0r:EE:=t_0q.ad 21 ⟨_,_,F_p⟩
theorem t_2y:OkE t_0r:=adE t_2x h_0u (by kernel_rfl) fun x=>by unfold F_p;rfl
def h_0v:FH:=⟨[],[],[],[]⟩
@[irreducible] noncomputable def F_J (x:DenL [z1]):Option (DenL [.bool]):=xf t_0r h_0v 96 x
noncomputable def t_0s:EE:=t_0r.ad 96 ⟨_,_,F_J⟩
theorem t_2z:OkE t_0s:=adE t_2y h_0v (by kernel_rfl) fun x=>by unfold F_J;rfl
def h_0w:FH:=⟨[(7,(line [0,1,2,3,4,5,6,7,8,9,10,11,12,13,14,15,16,17,18,19,20,21,22,23,24,25,26,27,28,29,30,31,32],[]))],[(4,⟨[],0,⟨[.any,.any,.p 0 0,.any,.any,.d .int]++an 79 [],[some ([.d z1],90)],[]⟩,[(.ret,⟨an 4 ([.d .bool]++an 80 []),[],[]⟩),(.exit 0,⟨an 85 [],[],[]⟩)]⟩)],[],[]⟩
@[irreducible] noncomputable def F_K (x:DenL [z1,.int]):Option (DenL [.bool]):=xf t_0s h_0w 62 x
noncomputable def t_0t:EE:=t_0s.ad 62 ⟨_,_,F_K⟩
theorem t_2A:OkE t_0t:=adE t_2z h_0w (by kernel_rfl) fun x=>by unfold F_K;rfl
def h_0x:FH:=⟨[(7,(line [0,1,2,3,4,5,6,7,8,9,10,11,12,13,15,14,16,17,18,19,20,21,22,23,24,25,26,27,28,29,30,31,32,33],[]))],[(4,⟨[],0,⟨[.any,.d .int,.any,.p 0 0,.any,.p 1 0,.any,.d .int]++an 55 [],[some ([.d z4],84),some ([.d z2],34)],[]⟩,[(.ret,⟨an 6 ([.d .bool]++an 56 []),[],[]⟩),(.exit 0,⟨an 63 [],[],[]⟩)]⟩)],[],[]⟩
@[irreducible] noncomputable def F_L (x:DenL [z4,.int,z2]):Option (DenL [.bool]):=xf t_0t h_0x 56 x
noncomputable def t_0u:EE:=t_0t.ad 56 ⟨_,_,F_L⟩
theorem t_2B:OkE t_0u:=adE t_2A h_0x (by kernel_rfl) fun x=>by unfold F_L;rfl
def h_0y:FH:=⟨[],[],[],[]⟩
@[irreducible] noncomputable def F_07 (x:DenL [z2]):Option (DenL [.bool]):=xf t_0u h_0y 55 x
noncomputable def t_0v:EE:=t_0u.ad 55 ⟨_,_,F_07⟩
theorem t_2C:OkE t_0v:=adE t_2B h_0y (by kernel_rfl) fun x=>by unfold F_07;rfl
def h_0z:FH:=⟨[(7,(line [0,1,2,3,4,5,6,7,8,9,10,11,12,13,14,15,16],[]))],[(5,⟨[],0,⟨[.any,.p 0 0,.any,.p 1 0,.d .int]++an 66 [],[some ([.d z5],38),some ([.d z2],34)],[]⟩,[(.ret,⟨[.any,.any,.d .bool]++an 68 [],[],[]⟩),(.exit 0,⟨an 71 [],[],[]⟩)]⟩)],[],[]⟩
@[irreducible] noncomputable def F_M (x:DenL [z5]):Option (DenL [.bool]):=xf t_0v h_0z 26 x
noncomputable def t_0w:EE:=t_0v.ad 26 ⟨_,_,F_M⟩
theorem t_2D:OkE t_0w:=adE t_2C h_0z (by kernel_rfl) fun x=>by unfold F_M;rfl
def h_0A:FH:=⟨[],[],[],[]⟩
@[irreducible] noncomputable def F_08 (x:DenL [z6,z6]):Option (DenL [.bool]):=xf t_0w h_0A 30 x
noncomputable def t_0x:EE:=t_0w.ad 30 ⟨_,_,F_08⟩
theorem t_2E:OkE t_0x:=adE t_2D h_0A (by kernel_rfl) fun x=>by unfold F_08;rfl
def h_0B:FH:=⟨[(6,(line [0,1,2,3,4,5,6,7,8,9,10,11],[]))],[(4,⟨[],0,⟨[.any,.any,.p 0 0,.p 1 0,.any,.d .int]++an 70 [],[some ([.d z7],31),some ([.d z7],31)],[]⟩,[(.ret,⟨an 4 ([.d .bool]++an 71 []),[],[]⟩),(.exit 0,⟨an 76 [],[],[]⟩)]⟩)],[],[]⟩
@[irreducible] noncomputable def F_09 (x:DenL [z7,z7]):Option (DenL [.bool]):=xf t_0x h_0B 18 x
noncomputable def t_0y:EE:=t_0x.ad 18 ⟨_,_,F_09⟩
theorem t_2F:OkE t_0y:=adE t_2E h_0B (by kernel_rfl) fun x=>by unfold F_09;rfl
def h_0C:FH:=⟨[(5,(lineT [0,1,2,3,4,5,6,7] [8,9,10],[]))],[(3,⟨[.cell 3 5 84 z4],0,⟨[.any,.p 0 0,.p 1 0,.p 2 0,.d .int]++an 31 [],[some ([.d z7],50),some ([.d z7],31),some ([.d .int,.d .int,.d .int,.d .int,.d (.row .int),.r 0,.d .int,.d .int,.d .int,.d .int,.d .int,.d .int,.d .str,.d (.row z0),.d .int],31)],[some (84,2,z4)]⟩,[(.exit 0,⟨[.any,.any,.p 0 0,.p 1 0]++an 32 [],[some ([.d z7],31),some ([.d .int,.d .int,.d .int,.d .int,.d (.row .int),.r 0,.d .int,.d .int,.d .int,.d .int,.d .int,.d .int,.d .str,.d (.row z0),.d .int],31)],[some (84,2,z4)]⟩)]⟩)],[],[]⟩
@[irreducible] noncomputable def F_N (x:DenL [z7]):Option (DenL [z7]):=xf t_0y h_0C 19 x
noncomputable def t_0z:EE:=t_0y.ad 19 ⟨_,_,F_N⟩
theorem t_2G:OkE t_0z:=adE t_2F h_0C (by kernel_rfl) fun x=>by unfold F_N;rfl
def h_0D:FH:=⟨[],[],[],[]⟩
@[irreducible] noncomputable def F_i (x:DenL [z7]):Option (DenL [z7]):=xfun Tryz.prog { EN with turns:=true } t_0z h_0D 121 [z7] [z7] x
noncomputable def s_E:ESm:=⟨[z7],[z7],F_i⟩
noncomputable def t_6:EE:=t_0z.ad 121 s_E
theorem t_2H:t_6.toD.Oks Sxz.env Tryz.prog txn.Most { EN with turns:=true }:=EE.add_ok (EE.withT t_2G) rfl hB (by kernel_rfl) (H:=h_0D) (congrArg (ESm.mk _ _) (funext fun x=>by unfold F_i;rfl))
theorem t_2I:OkE t_6:=EE.outT (E':=EN) t_2H
def h_0E:FH:=⟨[],[],[],[]⟩
@[irreducible] noncomputable def F_8 (x:DenL [z7,z5]):Option (DenL [z7]):=xf t_6 h_0E 122 x
noncomputable def t_0A:EE:=t_6.ad 122 ⟨_,_,F_8⟩
theorem t_2J:OkE t_0A:=adE t_2I h_0E (by kernel_rfl) fun x=>by unfold F_8;rfl
def h_0F:FH:=⟨[(2,(line [0,2,1,3,4,5],[2,3])),(3,(ones [0,1,3,4,5,6,7,8,9] (.fork 2 (lineT [10] [11,12,13]) 10 (lineT [2] [11,12,13])),[])),(4,(line [0,1,3,2,4,5,6],[2,3]))],[],[(4,[0])],[(3,⟨an 3 ([.p 0 0,.any,.p 1 0,.p 2 0,.p 3 0]++an 27 []),[some ([.d .int,.d .int,.d .int,.d .int,.r 0,.d (.row z4),.d .int,.d .int,.d .int,.d .int,.d .int,.d .int,.d .str,.d (.row z0),.d .int],50),some ([.d z5],46),some ([.d z7],50),some ([.d z5],46)],[some (3,1,.int)]⟩)]⟩
@[irreducible] noncomputable def F_O (x:DenL [z7,.int,z5]):Option (DenL [z7,z5,.int]):=xf t_0A h_0F 76 x
noncomputable def s_i:ESm:=⟨[z7,.int,z5],[z7,z5,.int],F_O⟩
noncomputable def t_0B:EE:=t_0A.ad 76 s_i
theorem t_2K:OkE t_0B:=adE t_2J h_0F (by kernel_rfl) fun x=>by unfold F_O;rfl
def h_0G:FH:=⟨[(1,(ones [0,1,3,4,5,6,7,8] (.fork 2 (lineT [9] [10,11,12]) 9 (lineT [2] [10,11,12])),[])),(2,(line [0,1,3,2,4,5,6],[2,3]))],[],[(2,[0])],[(1,⟨an 3 ([.p 0 0,.any,.p 1 0,.p 2 0,.p 3 0]++an 17 []),[some ([.d .int,.d .int,.d .int,.d .int,.d (.row .int),.r 0,.d .int,.d .int,.d .int,.d .int,.d .int,.d .int,.d .str,.d (.row z0),.d .int],50),some ([.d z5],46),some ([.d z7],50),some ([.d z5],46)],[some (112,2,z4)]⟩)]⟩
@[irreducible] noncomputable def F_P (x:DenL [z7,.int,z5]):Option (DenL [z7,z5,.int]):=xf t_0B h_0G 77 x
noncomputable def s_j:ESm:=⟨[z7,.int,z5],[z7,z5,.int],F_P⟩
noncomputable def t_0C:EE:=t_0B.ad 77 s_j
theorem t_2L:OkE t_0C:=adE t_2K h_0G (by kernel_rfl) fun x=>by unfold F_P;rfl
def h_0H:FH:=⟨[(1,(line [0,1,2,3,4,5,6,7,8,9,10,11,12,13,14,15,16,17,18,19,20,21,22,23,24,25,26,27,28,29],[]))],[],[],[]⟩
@[irreducible] noncomputable def F_q (x:DenL [z7,z5]):Option (DenL [.bool]):=xf t_0C h_0H 123 x
noncomputable def t_0D:EE:=t_0C.ad 123 ⟨_,_,F_q⟩
theorem t_2M:OkE t_0D:=adE t_2L h_0H (by kernel_rfl) fun x=>by unfold F_q;rfl
def h_0I:FH:=⟨[(1,(lineT [0,2,3,1,4,5] [6],[]))],[],[],[]⟩
@[irreducible] noncomputable def F_j (x:DenL [z7,(.row z4)]):Option (DenL [z6]):=xf t_0D h_0I 124 x
noncomputable def t_0E:EE:=t_0D.ad 124 ⟨_,_,F_j⟩
theorem t_2N:OkE t_0E:=adE t_2M h_0I (by kernel_rfl) fun x=>by unfold F_j;rfl
def h_0J:FH:=⟨[(5,(line [0,2,3,1,4,5,6],[2,3])),(9,(line [0,1,2,3,4,5],[2,3]))],[],[],[]⟩
@[irreducible] noncomputable def F_Q (x:DenL [z7,.int,z5]):Option (DenL [z7,z5,.int]):=xf t_0E h_0J 78 x
noncomputable def s_k:ESm:=⟨[z7,.int,z5],[z7,z5,.int],F_Q⟩
noncomputable def t_0F:EE:=t_0E.ad 78 s_k
theorem t_2O:OkE t_0F:=adE t_2N h_0J (by kernel_rfl) fun x=>by unfold F_Q;rfl
def h_0K:FH:=⟨[(2,(line [0,1,3,2,4,5,6],[2,3]))],[],[],[]⟩
@[irreducible] noncomputable def F_0a (x:DenL [z7,.int,z5]):Option (DenL [z7,z5,.int]):=xf t_0F h_0K 79 x
noncomputable def s_l:ESm:=⟨[z7,.int,z5],[z7,z5,.int],F_0a⟩
noncomputable def t_0G:EE:=t_0F.ad 79 s_l
theorem t_2P:OkE t_0G:=adE t_2O h_0K (by kernel_rfl) fun x=>by unfold F_0a;rfl
def h_0L:FH:=⟨[(2,(line [0,1,2,3,4],[2,3]))],[],[],[]⟩
@[irreducible] noncomputable def F_0b (x:DenL [z7,.int,z5]):Option (DenL [z7,z5,.int]):=xf t_0G h_0L 80 x
noncomputable def s_m:ESm:=⟨[z7,.int,z5],[z7,z5,.int],F_0b⟩
noncomputable def t_0H:EE:=t_0G.ad 80 s_m
theorem t_2Q:OkE t_0H:=adE t_2P h_0L (by kernel_rfl) fun x=>by unfold F_0b;rfl
def h_0M:FH:=⟨[(2,(line [0,1,3,2,4,5,6],[2,3]))],[],[],[]⟩
@[irreducible] noncomputable def F_0c (x:DenL [z7,.int,z5]):Option (DenL [z7,z5,.int]):=xf t_0H h_0M 81 x
noncomputable def s_n:ESm:=⟨[z7,.int,z5],[z7,z5,.int],F_0c⟩
noncomputable def t_0V:EE:=t_0H.ad 81 s_n
theorem t_2R:OkE t_0V:=adE t_2Q h_0M (by kernel_rfl) fun x=>by unfold F_0c;rfl
noncomputable abbrev tA:EE:=t_0V
theorem tA_ok:tA.toD.Oks Sxz.env Tryz.prog txn.Most EN:=t_2R
end Go.Proofs.YtdbjakibneeeiaaGreatDoor.Ex
