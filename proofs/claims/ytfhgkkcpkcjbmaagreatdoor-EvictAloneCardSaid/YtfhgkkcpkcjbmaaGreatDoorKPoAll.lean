/- Layer 13 (pool): what callees lay; Clone of accounts, within, the two Config. -/
import Derived.Test.YtfhgkkcpkcjbmaaGreatDoorKShAll
import Derived.Test.YtfhgkkcpkcjbmaaGreatDoorKQueTop
import Derived.Test.YtfhgkkcpkcjbmaaGreatDoorKTxnTop
import Derived.Test.YtfhgkkcpkcjbmaaGreatDoorKTxnREnc
import Derived.Test.YtfhgkkcpkcjbmaaGreatDoorKShP
set_option linter.all false
set_option maxHeartbeats 4000000
set_option maxRecDepth 100000
namespace Go.Proofs.YtfhgkkcpkcjbmaaGreatDoor.pool
open Go.RowKit Sx txn queue greedy shard
section
variable {P : Program} {W : World} {G : Option Nat} {Q : Ending → World → Prop} {ds : List Deferred}
def Lay (w w':World) (old:List Fact) (e:Ending) (v:Value) (fs:List Fact):Prop:=e=.returned v∧Below w.heap.size w w'∧∀φ∈fs,∀g,φ.g=some g→(w.heap.size≤g∨∃ψ∈old,ψ.g=some g)∧∃o,w'.heap[g]?=some o∧φ.holds o
theorem Lay.more {w w':World} {old old':List Fact} {e v fs} (h:Lay w w' old e v fs) (k:∀ψ∈old,∀g,ψ.g=some g→∃ψ'∈old',ψ'.g=some g):Lay w w' old' e v fs:=⟨h.1,h.2.1,fun φ hφ g hg=>⟨(h.2.2 φ hφ g hg).1.elim .inl fun ⟨ψ,h1,h2⟩=>.inr (k ψ h1 g h2),(h.2.2 φ hφ g hg).2⟩⟩
def New (W:World) (old:List Fact) (φ:Fact):Prop:=∀g,φ.g=some g→W.heap.size≤g∨∃ψ∈old,ψ.g=some g
theorem meetLy {ι:Type} {ok:ι→Prop} {v:ι→Value} {fs:ι→List Fact} {f:FuncId} {args:List Sx.T} {l:List Value} {m:M} {k:Value→List Fact→Tree} (old:List Fact) (hold:∀ψ∈old,ψ∈m.facts) (hv:valsOf args=some l) (hc:callable P f=true)
  (hC:∀β ρ w,Mem W G m β ρ w→Calls P f (List.toArray l) w fun e w'=>∃i,ok i∧Lay w w' old e (v i) (fs i)) (h:∀i,ok i→(∀φ∈fs i,New W old φ)→(k (v i) (fs i)).wpD P W G Q ds):(Tree.call f args m k).wpD P W G Q ds:=
 ⟨hc,fun β ρ w vs hm hr=>by
  rw [valsOf_spec _ _ _ hv hr]
  refine (hC β ρ w hm).mono fun e w' ⟨i,hi,he,hb,hg⟩=>⟨v i,fs i,he,hb,fun φ hφ g hφg=>?_,h i hi fun φ hφ g hg'=>(hg φ hφ g hg').1.elim (fun h=>.inl (Nat.le_trans hm.grown.size h)) .inr⟩
  obtain ⟨h1,h2⟩:=hg φ hφ g hφg
  exact ⟨h1.elim (fun h=>.inr (.inl h)) (fun ⟨ψ,h3,h4⟩=>.inr (.inr ⟨ψ,hold ψ h3,h4⟩)),h2⟩⟩
end
theorem cloneA (L:List Ac) (a:Option Addr) (n c:Nat) (w:World) (hs:Sl a n c) (hn:n=L.length) (hrow:At w (pt a n) (cellsA L)) (hl:L.length≤1000000) :
  Calls Tryz.prog 121 (List.toArray [.slice a n c]) w fun e w'=>∃v,e=.returned v∧Below w.heap.size w w'∧w'.ownsRow w.heap.size 47 3 v n (cellsA L):=by
 refine calls_of_row (Env.Ok.howD Sxs.env_ok [(121,.fresh 47 3)]) Tryz.func121 rfl [] (by kernel_rfl) (n:=2) rfl [.v (.slice a n c)] ⟨[],[],[rowF (pt a n) (cellsA L)]⟩ [] (mem_plain _ (at1 hrow)) (Rels.vals [.slice a n c]) ?_
 refine wp_prim (.bool a.isNone) (fun w=>by simp [eqGuard,Lib.run_eql_slice_nil w _ _ a n c 0 0 Tryz.underlying32]) ?_
 refine wp_br (fun h1=>?_) (fun h1=>?_)
 ·cases a with
  | some _=>cases h1
  | none=>
   have h0:=(hs.2.2 rfl).1
   exact wp_back fun β ρ w' hM'=>⟨_,rfl,hM'.below,by
    have hl0:L=[]:=List.eq_nil_of_length_eq_zero (by omega)
    subst hl0
    exact ⟨by simp [cellsA,h0],.inl ⟨rfl,h0⟩⟩⟩
 ·refine ⟨cellsA L,by rw [cellsA_length,hn],cellsA_one L,fun β ρ w' hM' ad had j u hu=>?_,?_⟩
  ·subst had
   have h1:=hM'.at_ List.mem_cons_self
   rw [pt_pos (k:=0) (by have:=cellsA_pos hu;omega)] at h1
   exact h1.cell hu
  ·refine wp_must ⟨by show 0+n≤maxLen;unfold maxLen;omega,by show (0+n)*40≤140737488355328;omega,fun ha=>hs.2.2 ha⟩ ?_
   refine wp_end (fun β ρ w' v hM' hv=>⟨v,rfl,hM'.below,?_⟩)
   have:=hM'.mine (i:=0) (r:=⟨47,3,0+n,[]++cellsA L⟩) rfl hv
   simpa using this
structure Cf where
 sh:Int
 so:Int
 hd:Int
 per:Int
 bp:Int
 fd:Int
 wk:Int
 rm:Int
def Cf.val (C:Cf):Value:=.agg #[.int .i64 C.sh,.int .i64 C.so,.int .i64 C.hd,.int .i64 C.per,.int .i64 C.bp,.int .i64 C.fd,.int .i64 C.wk,.int .i64 C.rm]
def cfgB (C:Cf):Bool:=decide (1≤C.sh∧C.sh≤8∧1≤C.hd∧C.hd≤1000∧0≤C.so∧C.so≤C.hd∧1≤C.per∧C.per≤16∧0≤C.bp∧C.bp≤100∧1≤C.fd∧C.fd≤16∧1≤C.wk∧C.wk≤4∧1≤C.rm∧C.rm≤8)
theorem inB_iff {n l m:Int}:inB n l m=true↔l≤n∧n≤m:=by unfold inB;rw [Bool.and_eq_true,decide_eq_true_eq,decide_eq_true_eq]
theorem inB_no {n l m:Int} (h:inB n l m=false):¬ (l≤n∧n≤m):=fun k=>by rw [inB_iff.2 k] at h;cases h
theorem within (n l m:Int) (w:World):Calls Tryz.prog 151 (List.toArray [.int .i64 n,.int .i64 l,.int .i64 m]) w fun e w'=>e=.returned (.bool (inB n l m))∧Below w.heap.size w w':=by
 refine calls_of_exec Sxs.env_ok.keeps Tryz.func151 rfl [] (schedQ_ok _ _ (by kernel_rfl)) [] (by simp) ?_
 conv=>arg 5;whnf
 refine wp_g1 (fun h1=>?_) (fun h1=>?_)
 ·have e:inB n l m=decide (n≤m):=by unfold inB;rw [h1,Bool.true_and]
  rw [e]
  conv=>arg 5;whnf
  exact wp_back fun β ρ w' hM'=>⟨rfl,hM'.below⟩
 ·have e:inB n l m=false:=by unfold inB;rw [h1,Bool.false_and]
  rw [e]
  conv=>arg 5;whnf
  exact wp_back fun β ρ w' hM'=>⟨rfl,hM'.below⟩
theorem config (C:Cf) (w:World):Calls Tryz.prog 96 (List.toArray [C.val]) w fun e w'=>e=.returned (.bool (cfgB C))∧Below w.heap.size w w':=by
 refine calls_of_exec Sxs.env_ok.keeps Tryz.func96 rfl [] (schedQ_ok _ _ (by kernel_rfl)) [] (by simp) ?_
 have W0:=within C.sh 1 8
 have W1:=within C.hd 1 1000
 have W2:=within C.so 0 C.hd
 have W3:=within C.per 1 16
 have W4:=within C.bp 0 100
 have W5:=within C.fd 1 16
 have W6:=within C.wk 1 4
 have W7:=within C.rm 1 8
 conv=>arg 5;whnf
 refine meetc (f:=151) (v:=.bool (inB C.sh 1 8)) rfl (by kernel_rfl) (fun β ρ w' hM'=>W0 w') ?_
 cases h0:inB C.sh 1 8 with
 | false=>
  have e:cfgB C=false:=decide_eq_false fun k=>inB_no h0 (by omega)
  rw [e]
  conv=>arg 5;whnf
  exact wp_back fun β ρ w' hM'=>⟨rfl,hM'.below⟩
 | true=>
  conv=>arg 5;whnf
  refine meetc (f:=151) (v:=.bool (inB C.hd 1 1000)) rfl (by kernel_rfl) (fun β ρ w' hM'=>W1 w') ?_
  cases h1:inB C.hd 1 1000 with
  | false=>
   have e:cfgB C=false:=decide_eq_false fun k=>inB_no h1 (by omega)
   rw [e]
   conv=>arg 5;whnf
   exact wp_back fun β ρ w' hM'=>⟨rfl,hM'.below⟩
  | true=>
   conv=>arg 5;whnf
   refine meetc (f:=151) (v:=.bool (inB C.so 0 C.hd)) rfl (by kernel_rfl) (fun β ρ w' hM'=>W2 w') ?_
   cases h2:inB C.so 0 C.hd with
   | false=>
    have e:cfgB C=false:=decide_eq_false fun k=>inB_no h2 (by omega)
    rw [e]
    conv=>arg 5;whnf
    exact wp_back fun β ρ w' hM'=>⟨rfl,hM'.below⟩
   | true=>
    conv=>arg 5;whnf
    refine meetc (f:=151) (v:=.bool (inB C.per 1 16)) rfl (by kernel_rfl) (fun β ρ w' hM'=>W3 w') ?_
    cases h3:inB C.per 1 16 with
    | false=>
     have e:cfgB C=false:=decide_eq_false fun k=>inB_no h3 (by omega)
     rw [e]
     conv=>arg 5;whnf
     exact wp_back fun β ρ w' hM'=>⟨rfl,hM'.below⟩
    | true=>
     conv=>arg 5;whnf
     refine meetc (f:=151) (v:=.bool (inB C.bp 0 100)) rfl (by kernel_rfl) (fun β ρ w' hM'=>W4 w') ?_
     cases h4:inB C.bp 0 100 with
     | false=>
      have e:cfgB C=false:=decide_eq_false fun k=>inB_no h4 (by omega)
      rw [e]
      conv=>arg 5;whnf
      exact wp_back fun β ρ w' hM'=>⟨rfl,hM'.below⟩
     | true=>
      conv=>arg 5;whnf
      refine meetc (f:=151) (v:=.bool (inB C.fd 1 16)) rfl (by kernel_rfl) (fun β ρ w' hM'=>W5 w') ?_
      cases h5:inB C.fd 1 16 with
      | false=>
       have e:cfgB C=false:=decide_eq_false fun k=>inB_no h5 (by omega)
       rw [e]
       conv=>arg 5;whnf
       exact wp_back fun β ρ w' hM'=>⟨rfl,hM'.below⟩
      | true=>
       conv=>arg 5;whnf
       refine meetc (f:=151) (v:=.bool (inB C.wk 1 4)) rfl (by kernel_rfl) (fun β ρ w' hM'=>W6 w') ?_
       cases h6:inB C.wk 1 4 with
       | false=>
        have e:cfgB C=false:=decide_eq_false fun k=>inB_no h6 (by omega)
        rw [e]
        conv=>arg 5;whnf
        exact wp_back fun β ρ w' hM'=>⟨rfl,hM'.below⟩
       | true=>
        conv=>arg 5;whnf
        refine meetc (f:=151) (v:=.bool (inB C.rm 1 8)) rfl (by kernel_rfl) (fun β ρ w' hM'=>W7 w') ?_
        cases h7:inB C.rm 1 8 with
        | false=>
         have e:cfgB C=false:=decide_eq_false fun k=>inB_no h7 (by omega)
         rw [e]
         conv=>arg 5;whnf
         exact wp_back fun β ρ w' hM'=>⟨rfl,hM'.below⟩
        | true=>
         have e:cfgB C=true:=decide_eq_true (by have:=inB_iff.1 h0;have:=inB_iff.1 h1;have:=inB_iff.1 h2;have:=inB_iff.1 h3;have:=inB_iff.1 h4;have:=inB_iff.1 h5;have:=inB_iff.1 h6;have:=inB_iff.1 h7;omega)
         rw [e]
         conv=>arg 5;whnf
         exact wp_back fun β ρ w' hM'=>⟨rfl,hM'.below⟩
theorem rconfig (C:Cf) (w:World):Calls Tryz.prog 48 (List.toArray [C.val]) w fun e w'=>e=.returned (.bool (cfgB C))∧Below w.heap.size w w':=by
 refine calls_of_exec Sxs.env_ok.keeps Tryz.func48 rfl [] (schedQ_ok _ _ (by kernel_rfl)) [] (by simp) ?_
 conv=>arg 5;whnf
 refine wp_g0 (fun h0=>?_) (fun h0=>?_)
 rotate_left
 ·have e:cfgB C=false:=decide_eq_false fun k=>by have:C.sh<1:=of_decide_eq_true h0;omega
  rw [e]
  conv=>arg 5;whnf
  exact wp_back fun β ρ w' hM'=>⟨rfl,hM'.below⟩
 have h0:¬ C.sh<1:=of_decide_eq_false h0
 conv=>arg 5;whnf
 refine wp_g0 (fun h1=>?_) (fun h1=>?_)
 rotate_left
 ·have e:cfgB C=false:=decide_eq_false fun k=>by have:8<C.sh:=of_decide_eq_true h1;omega
  rw [e]
  conv=>arg 5;whnf
  exact wp_back fun β ρ w' hM'=>⟨rfl,hM'.below⟩
 have h1:¬ 8<C.sh:=of_decide_eq_false h1
 conv=>arg 5;whnf
 refine wp_g0 (fun h2=>?_) (fun h2=>?_)
 rotate_left
 ·have e:cfgB C=false:=decide_eq_false fun k=>by have:C.so<0:=of_decide_eq_true h2;omega
  rw [e]
  conv=>arg 5;whnf
  exact wp_back fun β ρ w' hM'=>⟨rfl,hM'.below⟩
 have h2:¬ C.so<0:=of_decide_eq_false h2
 conv=>arg 5;whnf
 refine wp_g0 (fun h3=>?_) (fun h3=>?_)
 rotate_left
 ·have e:cfgB C=false:=decide_eq_false fun k=>by have:C.hd<C.so:=of_decide_eq_true h3;omega
  rw [e]
  conv=>arg 5;whnf
  exact wp_back fun β ρ w' hM'=>⟨rfl,hM'.below⟩
 have h3:¬ C.hd<C.so:=of_decide_eq_false h3
 conv=>arg 5;whnf
 refine wp_g0 (fun h4=>?_) (fun h4=>?_)
 rotate_left
 ·have e:cfgB C=false:=decide_eq_false fun k=>by have:C.hd<1:=of_decide_eq_true h4;omega
  rw [e]
  conv=>arg 5;whnf
  exact wp_back fun β ρ w' hM'=>⟨rfl,hM'.below⟩
 have h4:¬ C.hd<1:=of_decide_eq_false h4
 conv=>arg 5;whnf
 refine wp_g0 (fun h5=>?_) (fun h5=>?_)
 rotate_left
 ·have e:cfgB C=false:=decide_eq_false fun k=>by have:1000<C.hd:=of_decide_eq_true h5;omega
  rw [e]
  conv=>arg 5;whnf
  exact wp_back fun β ρ w' hM'=>⟨rfl,hM'.below⟩
 have h5:¬ 1000<C.hd:=of_decide_eq_false h5
 conv=>arg 5;whnf
 refine wp_g0 (fun h6=>?_) (fun h6=>?_)
 rotate_left
 ·have e:cfgB C=false:=decide_eq_false fun k=>by have:C.per<1:=of_decide_eq_true h6;omega
  rw [e]
  conv=>arg 5;whnf
  exact wp_back fun β ρ w' hM'=>⟨rfl,hM'.below⟩
 have h6:¬ C.per<1:=of_decide_eq_false h6
 conv=>arg 5;whnf
 refine wp_br (fun h7=>?_) (fun h7=>?_)
 ·have e:cfgB C=false:=decide_eq_false fun k=>by have:16<C.per:=of_decide_eq_true h7;omega
  rw [e]
  conv=>arg 5;whnf
  exact wp_back fun β ρ w' hM'=>⟨rfl,hM'.below⟩
 have h7:¬ 16<C.per:=of_decide_eq_false h7
 conv=>arg 5;whnf
 refine wp_g1 (fun g0=>?_) (fun g0=>?_)
 rotate_left
 ·have e:cfgB C=false:=decide_eq_false fun k=>by have:¬ C.bp≥0:=of_decide_eq_false g0;omega
  rw [e]
  conv=>arg 5;whnf
  exact wp_back fun β ρ w' hM'=>⟨rfl,hM'.below⟩
 have g0:C.bp≥0:=of_decide_eq_true g0
 conv=>arg 5;whnf
 refine wp_g1 (fun g1=>?_) (fun g1=>?_)
 rotate_left
 ·have e:cfgB C=false:=decide_eq_false fun k=>by have:¬ C.bp≤100:=of_decide_eq_false g1;omega
  rw [e]
  conv=>arg 5;whnf
  exact wp_back fun β ρ w' hM'=>⟨rfl,hM'.below⟩
 have g1:C.bp≤100:=of_decide_eq_true g1
 conv=>arg 5;whnf
 refine wp_g1 (fun g2=>?_) (fun g2=>?_)
 rotate_left
 ·have e:cfgB C=false:=decide_eq_false fun k=>by have:¬ C.fd≥1:=of_decide_eq_false g2;omega
  rw [e]
  conv=>arg 5;whnf
  exact wp_back fun β ρ w' hM'=>⟨rfl,hM'.below⟩
 have g2:C.fd≥1:=of_decide_eq_true g2
 conv=>arg 5;whnf
 refine wp_g1 (fun g3=>?_) (fun g3=>?_)
 rotate_left
 ·have e:cfgB C=false:=decide_eq_false fun k=>by have:¬ C.fd≤16:=of_decide_eq_false g3;omega
  rw [e]
  conv=>arg 5;whnf
  exact wp_back fun β ρ w' hM'=>⟨rfl,hM'.below⟩
 have g3:C.fd≤16:=of_decide_eq_true g3
 conv=>arg 5;whnf
 refine wp_g1 (fun g4=>?_) (fun g4=>?_)
 rotate_left
 ·have e:cfgB C=false:=decide_eq_false fun k=>by have:¬ C.wk≥1:=of_decide_eq_false g4;omega
  rw [e]
  conv=>arg 5;whnf
  exact wp_back fun β ρ w' hM'=>⟨rfl,hM'.below⟩
 have g4:C.wk≥1:=of_decide_eq_true g4
 conv=>arg 5;whnf
 refine wp_g1 (fun g5=>?_) (fun g5=>?_)
 rotate_left
 ·have e:cfgB C=false:=decide_eq_false fun k=>by have:¬ C.wk≤4:=of_decide_eq_false g5;omega
  rw [e]
  conv=>arg 5;whnf
  exact wp_back fun β ρ w' hM'=>⟨rfl,hM'.below⟩
 have g5:C.wk≤4:=of_decide_eq_true g5
 conv=>arg 5;whnf
 refine wp_g1 (fun g6=>?_) (fun g6=>?_)
 rotate_left
 ·have e:cfgB C=false:=decide_eq_false fun k=>by have:¬ C.rm≥1:=of_decide_eq_false g6;omega
  rw [e]
  conv=>arg 5;whnf
  exact wp_back fun β ρ w' hM'=>⟨rfl,hM'.below⟩
 have g6:C.rm≥1:=of_decide_eq_true g6
 have e:cfgB C=decide (C.rm≤8):=by unfold cfgB;rw [Bool.eq_iff_iff,decide_eq_true_eq,decide_eq_true_eq];omega
 rw [e]
 conv=>arg 5;whnf
 exact wp_back fun β ρ w' hM'=>⟨rfl,hM'.below⟩
end Go.Proofs.YtfhgkkcpkcjbmaaGreatDoor.pool
namespace Go.Proofs.YtfhgkkcpkcjbmaaGreatDoor.pool
open Go.RowKit Sx txn queue greedy shard
def slotsP (P:List PA):Int:=(P.map fun x=>slotsL x.2.2).sum
theorem slotsA_P (L:List Ac):slotsA L=slotsP (L.map acP):=by unfold slotsA slotsP;rw [List.map_map];rfl
theorem rslots11 (v:Int) (L:List Ac) (a:Option Addr) (n c:Nat) (w:World) (hA:Acs w a n c L) (h1000:n≤1000000) :
  Calls Tryz.prog 55 (List.toArray [shV a n c v]) w fun e w'=>e=.returned (.int .i64 (slotsA L))∧Below w.heap.size w w':=by
 have hs:=hA.1
 have hn:=hA.2.1
 have hn63:=hs.le
 refine calls_of_exec Sxs.env_ok.keeps Tryz.func55 rfl [] (schedQ_ok _ _ (by kernel_rfl)) (acsF a n L) hA.facts ?_
 conv=>arg 5;whnf
 refine loop_ruleE Sxs.env_ok.keeps [] (schedQ_ok _ _ (by kernel_rfl)) [1] (fun k:Nat=>k≤n∧0≤slotsA (L.take k)∧slotsA (L.take k)≤13000000*k) (fun k=>(⟨[some ([.v (.slice a n c),.v (.int .i64 v)],109)],[],acsF a n L⟩,[.any,.p 0 0,.any,.v (.int .i64 (slotsA (L.take k))),.v (.int .i64 k),.any,.any,.any,.any,.any,.any,.any,.any,.any,.any,.any,.any,.any,.any,.any,.any])) (fun k=>n - k) 0 ⟨Nat.zero_le _,by unfold slotsA;simp,by unfold slotsA;simp⟩ ⟨by repeat' first | exact trivial | refine ⟨.inl rfl,?_⟩ | refine ⟨.inr rfl,?_⟩,⟨by repeat' first | exact trivial | refine ⟨.inl rfl,?_⟩ | refine ⟨.inr rfl,?_⟩,by repeat' first | exact trivial | refine ⟨.inl rfl,?_⟩ | refine ⟨.inr rfl,?_⟩,fun _ h=>h⟩,rfl⟩ ?_
 rintro k ⟨hk,hk0,hk1⟩
 conv=>arg 5;whnf
 refine wp_br (fun h1=>?_) (fun h1=>?_)
 ·have hlt:k<n:=by have h3:=of_decide_eq_true (show decide ((k:Int)<(n:Int))=true from h1);omega
  obtain ⟨x,hx1⟩:∃x,L[k]?=some x:=⟨_,List.getElem?_eq_getElem (by omega)⟩
  have hxm:x∈L:=List.mem_of_getElem? hx1
  obtain ⟨⟨xs,xn,xl,xd⟩,_⟩:=hA.2.2.2 x hxm
  have hst:=slotsA_take hx1
  have hb:=slotsL_bd x.l
  have SL:=fun w hr=>rslots_ x.s x.b x.l x.a x.n x.c w xs xn hr xd (by omega)
  generalize slotsL x.l=sl at *
  conv=>arg 5;whnf
  refine wp_must ⟨by omega,by show (k:Int)<(n:Int);omega,hs.some hlt⟩ ?_
  conv=>arg 5;whnf
  refine readG Sxs.env_ok (vs:=x.cs) (sz:=3) (k:=k) rfl rfl (.head _) hlt (hs.some hlt) (cellsA_at hx1) rfl ?_
  conv=>arg 5;whnf
  refine meetc (f:=107) (v:=.int .i64 sl) rfl (by kernel_rfl) (fun β ρ w' hM'=>SL w' (hM'.at_ (.tail _ (List.mem_map.2 ⟨x,hxm,rfl⟩)))) ?_
  conv=>arg 5;whnf
  refine wp_must ⟨by omega,by omega⟩ ?_
  conv=>arg 5;whnf
  refine wp_must ⟨by show -9223372036854775808≤(k:Int)+1;omega,by show (k:Int)+1≤9223372036854775807;omega⟩ ?_
  conv=>arg 5;whnf
  rw [← hst]
  refine wp_end ⟨k+1,⟨hlt,by omega,by push_cast;omega⟩,⟨by repeat' first | exact trivial | refine ⟨.inl rfl,?_⟩ | refine ⟨.inr rfl,?_⟩,⟨by repeat' first | exact trivial | refine ⟨.inl rfl,?_⟩ | refine ⟨.inr rfl,?_⟩,by repeat' first | exact trivial | refine ⟨.inl rfl,?_⟩ | refine ⟨.inr rfl,?_⟩,fun _ h=>h⟩,rfl⟩,by show n - (k+1)<n - k;omega⟩
 ·have hkn:k=n:=by have h3:=of_decide_eq_false (show decide ((k:Int)<(n:Int))=false from h1);omega
  have e:L.take k=L:=List.take_of_length_le (by omega)
  rw [e]
  conv=>arg 5;whnf
  exact wp_back fun β ρ w' hM'=>⟨rfl,hM'.below⟩
theorem pslots (L:List Ac) (a:Option Addr) (n c:Nat) (w:World) (hM:Most w) (hA:Acs w a n c L) (h1000:n≤1000000) :
  Calls Tryz.prog 116 (List.toArray [.slice a n c]) w fun e w'=>e=.returned (.int .i64 (slotsA L))∧Below w.heap.size w w':=by
 have SL:=fun w hM hA=>slots 0 L a n c w hM hA h1000
 refine calls_of_exec Sxs.env_ok.keeps Tryz.func116 rfl [] (schedQ_ok _ _ (by kernel_rfl)) (acsF a n L) hA.facts ?_
 conv=>arg 5;whnf
 refine meetc (f:=164) (v:=.int .i64 (slotsA L)) rfl (by kernel_rfl) (fun β ρ w' hM'=>SL w' (hM.later hM'.below) (Mem.acs hA hM' fun φ hφ=>hφ)) ?_
 conv=>arg 5;whnf
 exact wp_back fun β ρ w' hM'=>⟨rfl,hM'.below⟩
theorem rslots (L:List Ac) (a:Option Addr) (n c:Nat) (w:World) (hA:Acs w a n c L) (h1000:n≤1000000) :
  Calls Tryz.prog 17 (List.toArray [.slice a n c]) w fun e w'=>e=.returned (.int .i64 (slotsA L))∧Below w.heap.size w w':=by
 have SL:=fun w hA=>rslots11 0 L a n c w hA h1000
 refine calls_of_exec Sxs.env_ok.keeps Tryz.func17 rfl [] (schedQ_ok _ _ (by kernel_rfl)) (acsF a n L) hA.facts ?_
 conv=>arg 5;whnf
 refine meetc (f:=55) (v:=.int .i64 (slotsA L)) rfl (by kernel_rfl) (fun β ρ w' hM'=>SL w' (Mem.acs hA hM' fun φ hφ=>hφ)) ?_
 conv=>arg 5;whnf
 exact wp_back fun β ρ w' hM'=>⟨rfl,hM'.below⟩
def pckB (C:Cf) (P:List PA):Bool:=cfgB C&&shCheck 0 P 0 1 C.per&&decide (slotsP P≤C.hd)
theorem pcheck (C:Cf) (L:List Ac) (a:Option Addr) (n c:Nat) (w:World) (hM:Most w) (hA:Acs w a n c L) (h1000:n≤1000000) :
  Calls Tryz.prog 57 (List.toArray [C.val,.slice a n c]) w fun e w'=>e=.returned (.bool (pckB C (L.map acP)))∧Below w.heap.size w w':=by
 have CF:=fun w=>config C w
 have CK:=fun w hM hA=>check 0 L a n c 0 1 0 0 C.per 0 0 0 0 w hM hA h1000
 have SL:=fun w hM hA=>pslots L a n c w hM hA h1000
 have e0:pckB C (L.map acP)=(cfgB C&&shCheck 0 (L.map acP) 0 1 C.per&&decide (slotsA L≤C.hd)):=by rw [slotsA_P];rfl
 rw [e0]
 refine calls_of_exec Sxs.env_ok.keeps Tryz.func57 rfl [(4,(line [0,1,2,3,4,5,7,8,6,9,10,11],[]))] (schedQ_ok _ _ (by kernel_rfl)) (acsF a n L) hA.facts ?_
 generalize cfgB C=cf at *
 generalize shCheck 0 (L.map acP) 0 1 C.per=ck at *
 conv=>arg 5;whnf
 refine meetc (f:=96) (v:=.bool cf) rfl (by kernel_rfl) (fun β ρ w' hM'=>CF w') ?_
 cases cf with
 | false=>
  conv=>arg 5;whnf
  exact wp_back fun β ρ w' hM'=>⟨rfl,hM'.below⟩
 | true=>
  conv=>arg 5;whnf
  refine meetc (f:=115) (v:=.bool ck) rfl (by kernel_rfl) (fun β ρ w' hM'=>CK w' (hM.later hM'.below) (Mem.acs hA hM' fun φ hφ=>hφ)) ?_
  cases ck with
  | false=>
   conv=>arg 5;whnf
   exact wp_back fun β ρ w' hM'=>⟨rfl,hM'.below⟩
  | true=>
   conv=>arg 5;whnf
   refine meetc (f:=116) (v:=.int .i64 (slotsA L)) rfl (by kernel_rfl) (fun β ρ w' hM'=>SL w' (hM.later hM'.below) (Mem.acs hA hM' fun φ hφ=>hφ)) ?_
   conv=>arg 5;whnf
   exact wp_back fun β ρ w' hM'=>⟨rfl,hM'.below⟩
theorem checkV_base {s b per:Int} {l:List Tx} (h:checkV s b per l=true):0≤s∧s≤255∧0≤b∧b≤4294967295∧(l.length:Int)≤per:=by
 unfold checkV at h
 simp only [Bool.and_eq_true,inB_iff,decide_eq_true_eq] at h
 omega
theorem ck_one (s b per:Int) (l:List Tx) (e:Bool):(checkV s b per l&&e&&(fnv.shardV s 1==0))=(checkV s b per l&&e):=by
 cases h:checkV s b per l with
 | false=>rfl
 | true=>
  have hb:=checkV_base h
  have:fnv.shardV s 1=0:=by unfold fnv.shardV;rw [if_pos ⟨by omega,by omega,by decide,by decide⟩];exact Int.emod_one _
  rw [this];simp
theorem okI_zero1 {P:List PA} {per:Int} {x:PA} (h:P[0]?=some x):okI P 0 1 per 0=(checkV x.1 x.2.1 per x.2.2 && !emptyV x.2.1 x.2.2.length):=by rw [okI_zero h,ck_one]
theorem okI_succ1 {P:List PA} {per:Int} {j:Nat} {x y:PA} (h:P[j+1]?=some x) (hy:P[j]?=some y):okI P 0 1 per (j+1)=(decide (y.1<x.1)&&checkV x.1 x.2.1 per x.2.2 && !emptyV x.2.1 x.2.2.length):=by
 rw [okI_succ h hy]
 have:=ck_one x.1 x.2.1 per x.2.2 (!emptyV x.2.1 x.2.2.length)
 cases decide (y.1<x.1) with
 | false=>simp
 | true=>simp only [Bool.true_and];exact this
theorem rcheck (C:Cf) (L:List Ac) (a:Option Addr) (n c:Nat) (w:World) (hM:Most w) (hA:Acs w a n c L) (h1000:n≤1000000) :
  Calls Tryz.prog 45 (List.toArray [C.val,.slice a n c]) w fun e w'=>e=.returned (.bool (pckB C (L.map acP)))∧Below w.heap.size w w':=by
 have hs:=hA.1
 have hn:=hA.2.1
 have hn63:=hs.le
 have CF:=fun w=>rconfig C w
 have SL:=fun w hA=>rslots L a n c w hA h1000
 have e0:pckB C (L.map acP)=(cfgB C&&decide (slotsA L≤C.hd)&&shOk (L.map acP) 0 1 C.per):=by rw [slotsA_P];unfold pckB shCheck;simp only [Int.le_refl,decide_true,Bool.true_and,show (0:Int)≤1099511627776 from by decide,Bool.and_assoc];rw [Bool.and_comm (shOk _ _ _ _)]
 rw [e0]
 refine calls_of_exec Sxs.env_ok.keeps Tryz.func45 rfl [(1,(line [0,1,2,3,4,6,7,5,8,9],[])),(6,(line [0,1,2,3,4,5,6,7,8,9,10,11,12,13,14,15,16,17,18,19,20,21,22,23,24,25,26,27,28,29,30,31,32,33,34,35,36,37,38,39,40,41,42],[]))] (schedQ_ok _ _ (by kernel_rfl)) (acsF a n L) hA.facts ?_
 generalize cfgB C=cf at *
 conv=>arg 5;whnf
 refine meetc (f:=48) (v:=.bool cf) rfl (by kernel_rfl) (fun β ρ w' hM'=>CF w') ?_
 cases cf with
 | false=>
  conv=>arg 5;whnf
  exact wp_back fun β ρ w' hM'=>⟨rfl,hM'.below⟩
 | true=>
  conv=>arg 5;whnf
  refine meetc (f:=17) (v:=.int .i64 (slotsA L)) rfl (by kernel_rfl) (fun β ρ w' hM'=>SL w' (Mem.acs hA hM' fun φ hφ=>hφ)) ?_
  conv=>arg 5;whnf
  refine wp_br (fun h1=>?_) (fun h1=>?_)
  ·have h2:C.hd<slotsA L:=of_decide_eq_true h1
   rw [decide_eq_false (show ¬ slotsA L≤C.hd by omega)]
   conv=>arg 5;whnf
   exact wp_back fun β ρ w' hM'=>⟨rfl,hM'.below⟩
  have h2:¬ C.hd<slotsA L:=of_decide_eq_false h1
  rw [decide_eq_true (show slotsA L≤C.hd by omega),Bool.true_and,Bool.true_and]
  clear h1
  have bad:shOk (L.map acP) 0 1 C.per=false→Ending.returned (tup [Value.bool false])=.returned (.bool (shOk (L.map acP) 0 1 C.per)):=fun h=>by rw [h];rfl
  conv=>arg 5;whnf
  refine loop_ruleE Sxs.env_ok.keeps [(1,(line [0,1,2,3,4,6,7,5,8,9],[])),(6,(line [0,1,2,3,4,5,6,7,8,9,10,11,12,13,14,15,16,17,18,19,20,21,22,23,24,25,26,27,28,29,30,31,32,33,34,35,36,37,38,39,40,41,42],[]))] (schedQ_ok _ _ (by kernel_rfl)) [1] (fun k:Nat=>k≤n∧(List.range k).all (okI (L.map acP) 0 1 C.per)=true) (fun k=>(⟨[some ([.v (.int .i64 C.sh),.v (.int .i64 C.so),.v (.int .i64 C.hd),.v (.int .i64 C.per),.v (.int .i64 C.bp),.v (.int .i64 C.fd),.v (.int .i64 C.wk),.v (.int .i64 C.rm)],23)],[],acsF a n L⟩,[.any,.v (.slice a n c),.p 0 0,.any,.any,.v (.int .i64 k),.any,.any,.any,.any,.any,.any,.any,.any,.any,.any,.any,.any,.any,.any,.any,.any,.any,.any,.any,.any,.any,.any,.any,.any,.any,.any,.any,.any,.any,.any,.any,.any,.any,.any,.any,.any,.any,.any,.any,.any,.any,.any,.any,.any,.any,.any,.any,.any,.any,.any,.any,.any,.any,.any,.any,.any,.any,.any,.any])) (fun k=>n - k) 0 ⟨Nat.zero_le _,rfl⟩ ⟨by repeat' first | exact trivial | refine ⟨.inl rfl,?_⟩ | refine ⟨.inr rfl,?_⟩,⟨by repeat' first | exact trivial | refine ⟨.inl rfl,?_⟩ | refine ⟨.inr rfl,?_⟩,by repeat' first | exact trivial | refine ⟨.inl rfl,?_⟩ | refine ⟨.inr rfl,?_⟩,fun _ h=>h⟩,rfl⟩ ?_
  rintro k ⟨hk,hok⟩
  conv=>arg 5;whnf
  refine wp_br (fun h1=>?_) (fun h1=>?_)
  ·have hlt:k<n:=by have h3:=of_decide_eq_true (show decide ((k:Int)<(n:Int))=true from h1);omega
   obtain ⟨x,hx⟩:∃x,L[k]?=some x:=⟨_,List.getElem?_eq_getElem (by omega)⟩
   have hxm:x∈L:=List.mem_of_getElem? hx
   obtain ⟨⟨xs,xn,xl,xd⟩,_⟩:=hA.2.2.2 x hxm
   have hxP:(L.map acP)[k]?=some (acP x):=by rw [List.getElem?_map,hx];rfl
   have CK:=fun w hM hr=>rcheck_ x.s x.b C.per x.l x.a x.n x.c w hM xs xn hr
   have hall:∀b,okI (L.map acP) 0 1 C.per k=b→(List.range (k+1)).all (okI (L.map acP) 0 1 C.per)=b:=fun b hb=>by rw [List.range_succ,List.all_append,hok,Bool.true_and];simp [hb]
   have hno:checkV x.s x.b C.per x.l=false→okI (L.map acP) 0 1 C.per k=false:=fun h=>by
    cases k with
    | zero=>rw [okI_zero1 hxP];show (checkV x.s x.b C.per x.l&&_)=false;rw [h];rfl
    | succ j=>
     obtain ⟨y,hy⟩:∃y,L[j]?=some y:=⟨_,List.getElem?_eq_getElem (by omega)⟩
     rw [okI_succ1 hxP (show (L.map acP)[j]?=some (acP y) by rw [List.getElem?_map,hy];rfl)];show (_&&checkV x.s x.b C.per x.l&&_)=false;rw [h];simp
   have hno2:emptyV x.b x.l.length=true→okI (L.map acP) 0 1 C.per k=false:=fun h=>by
    cases k with
    | zero=>rw [okI_zero1 hxP];show (_ && !emptyV x.b x.l.length)=false;rw [h];simp
    | succ j=>
     obtain ⟨y,hy⟩:∃y,L[j]?=some y:=⟨_,List.getElem?_eq_getElem (by omega)⟩
     rw [okI_succ1 hxP (show (L.map acP)[j]?=some (acP y) by rw [List.getElem?_map,hy];rfl)];show (_&&_ && !emptyV x.b x.l.length)=false;rw [h];simp
   have hck:=@checkV_base x.s x.b C.per x.l
   generalize hcv:checkV x.s x.b C.per x.l=ck at *
   conv=>arg 5;whnf
   refine wp_must ⟨by omega,by show (k:Int)<(n:Int);omega,hs.some hlt⟩ ?_
   conv=>arg 5;whnf
   refine readG Sxs.env_ok (vs:=x.cs) (sz:=3) (k:=k) rfl rfl (.head _) hlt (hs.some hlt) (cellsA_at hx) rfl ?_
   conv=>arg 5;whnf
   refine meetc (f:=91) (v:=.bool ck) rfl (by kernel_rfl) (fun β ρ w' hM'=>CK w' (hM.later hM'.below) (hM'.at_ (.tail _ (List.mem_map.2 ⟨x,hxm,rfl⟩)))) ?_
   cases ck with
   | false=>
    conv=>arg 5;whnf
    exact wp_back fun β ρ w' hM'=>⟨bad (shOk_false (i:=k) (hno rfl)),hM'.below⟩
   | true=>
    have hck:=hck rfl
    conv=>arg 5;whnf
    refine wp_must ⟨by omega,by show (k:Int)<(n:Int);omega,hs.some hlt⟩ ?_
    conv=>arg 5;whnf
    refine readF (sz:=3) (k:=k) (f:=1) (.int .i64 x.b) rfl (.head _) hlt (hs.some hlt) (cellsA_at hx 1 _ rfl) rfl ?_
    conv=>arg 5;whnf
    refine wp_g1 (fun h3=>?_) (fun h3=>?_)
    ·have h4:x.b=0:=eq_of_beq h3
     conv=>arg 5;whnf
     refine wp_must ⟨by omega,by show (k:Int)<(n:Int);omega,hs.some hlt⟩ ?_
     conv=>arg 5;whnf
     refine readF (sz:=3) (k:=k) (f:=2) (.slice x.a x.n x.c) rfl (.head _) hlt (hs.some hlt) (cellsA_at hx 2 _ rfl) rfl ?_
     by_cases hx0:x.n=0
     ·have hem:emptyV x.b x.l.length=true:=by unfold emptyV;rw [decide_eq_true (show x.b≤0 by omega),decide_eq_true (show x.l.length=0 by omega)];rfl
      rw [hx0]
      conv=>arg 5;whnf
      exact wp_back fun β ρ w' hM'=>⟨bad (shOk_false (i:=k) (hno2 hem)),hM'.below⟩
     ·have hem:emptyV x.b x.l.length=false:=by unfold emptyV;rw [decide_eq_false (show ¬ x.l.length=0 by omega),Bool.and_false]
      obtain ⟨r,hr⟩:∃r,x.n=r+1:=⟨x.n - 1,by omega⟩
      conv=>arg 5;whnf
      refine wp_g0 (fun h9=>?_) (fun h9=>?_)
      rotate_left
      ·have h10:(x.n:Int)=0:=eq_of_beq h9
       omega
      conv=>arg 5;whnf
      refine wp_g1 (fun h5=>?_) (fun h5=>?_)
      ·have hk0:0<k:=by have h6:(0:Int)<(k:Int):=of_decide_eq_true h5;omega
       obtain ⟨j,rfl⟩:∃j,k=j+1:=⟨k - 1,by omega⟩
       obtain ⟨y,hy⟩:∃y,L[j]?=some y:=⟨_,List.getElem?_eq_getElem (by omega)⟩
       have hS:=okI_succ1 (per:=C.per) hxP (show (L.map acP)[j]?=some (acP y) by rw [List.getElem?_map,hy];rfl)
       conv=>arg 5;whnf
       refine wp_must ⟨by show -9223372036854775808≤((j+1:Nat):Int) - 1;omega,by show ((j+1:Nat):Int) - 1≤9223372036854775807;omega⟩ ?_
       conv=>arg 5;whnf
       refine wp_must ⟨by show 0≤((j+1:Nat):Int) - 1;omega,by show ((j+1:Nat):Int) - 1<(n:Int);omega,hs.some (show j<n by omega)⟩ ?_
       conv=>arg 5;whnf
       refine readF (sz:=3) (k:=j) (f:=0) (.int .i64 y.s) rfl (.head _) (show j<n by omega) (hs.some (show j<n by omega)) (cellsA_at hy 0 _ rfl) (by rw [show (((j+1:Nat):Int) - 1).toNat=j by omega]) ?_
       conv=>arg 5;whnf
       refine wp_must ⟨by omega,by show ((j+1:Nat):Int)<(n:Int);omega,hs.some hlt⟩ ?_
       conv=>arg 5;whnf
       refine readF (sz:=3) (k:=j+1) (f:=0) (.int .i64 x.s) rfl (.head _) hlt (hs.some hlt) (cellsA_at hx 0 _ rfl) rfl ?_
       conv=>arg 5;whnf
       refine wp_br (fun h7=>?_) (fun h7=>?_)
       ·have h8:y.s≥x.s:=of_decide_eq_true h7
        conv=>arg 5;whnf
        exact wp_back fun β ρ w' hM'=>⟨bad (shOk_false (i:=j+1) (by rw [hS,decide_eq_false (show ¬ (acP y).1<(acP x).1 from by show ¬ y.s<x.s;omega)];rfl)),hM'.below⟩
       ·have h8:¬ y.s≥x.s:=of_decide_eq_false h7
        have hokk:okI (L.map acP) 0 1 C.per (j+1)=true:=by rw [hS,decide_eq_true (show (acP y).1<(acP x).1 from by show y.s<x.s;omega)];show (true&&checkV x.s x.b C.per x.l && !emptyV x.b x.l.length)=true;rw [hcv,hem];rfl
        conv=>arg 5;whnf
        refine wp_must ⟨by show -9223372036854775808≤(((j+1:Nat)):Int)+1;omega,by show (((j+1:Nat)):Int)+1≤9223372036854775807;omega⟩ ?_
        conv=>arg 5;whnf
        refine wp_end ⟨j+1+1,⟨hlt,hall true hokk⟩,⟨by repeat' first | exact trivial | refine ⟨.inl rfl,?_⟩ | refine ⟨.inr rfl,?_⟩,⟨by repeat' first | exact trivial | refine ⟨.inl rfl,?_⟩ | refine ⟨.inr rfl,?_⟩,by repeat' first | exact trivial | refine ⟨.inl rfl,?_⟩ | refine ⟨.inr rfl,?_⟩,fun _ h=>h⟩,rfl⟩,by show n - (j+1+1)<n - (j+1);omega⟩
      ·have hk0:k=0:=by have h6:¬ (0:Int)<(k:Int):=of_decide_eq_false h5;omega
       subst hk0
       have hokk:okI (L.map acP) 0 1 C.per 0=true:=by rw [okI_zero1 hxP];show (checkV x.s x.b C.per x.l && !emptyV x.b x.l.length)=true;rw [hcv,hem];rfl
       conv=>arg 5;whnf
       refine wp_must ⟨by show -9223372036854775808≤((0:Nat):Int)+1;omega,by show ((0:Nat):Int)+1≤9223372036854775807;omega⟩ ?_
       conv=>arg 5;whnf
       refine wp_end ⟨0+1,⟨hlt,hall true hokk⟩,⟨by repeat' first | exact trivial | refine ⟨.inl rfl,?_⟩ | refine ⟨.inr rfl,?_⟩,⟨by repeat' first | exact trivial | refine ⟨.inl rfl,?_⟩ | refine ⟨.inr rfl,?_⟩,by repeat' first | exact trivial | refine ⟨.inl rfl,?_⟩ | refine ⟨.inr rfl,?_⟩,fun _ h=>h⟩,rfl⟩,by show n - (0+1)<n - 0;omega⟩
    ·have h4:¬ x.b=0:=fun h=>by rw [h] at h3;cases h3
     have hem:emptyV x.b x.l.length=false:=by unfold emptyV;rw [decide_eq_false (show ¬ x.b≤0 by omega),Bool.false_and]
     conv=>arg 5;whnf
     refine wp_g1 (fun h5=>?_) (fun h5=>?_)
     ·have hk0:0<k:=by have h6:(0:Int)<(k:Int):=of_decide_eq_true h5;omega
      obtain ⟨j,rfl⟩:∃j,k=j+1:=⟨k - 1,by omega⟩
      obtain ⟨y,hy⟩:∃y,L[j]?=some y:=⟨_,List.getElem?_eq_getElem (by omega)⟩
      have hS:=okI_succ1 (per:=C.per) hxP (show (L.map acP)[j]?=some (acP y) by rw [List.getElem?_map,hy];rfl)
      conv=>arg 5;whnf
      refine wp_must ⟨by show -9223372036854775808≤((j+1:Nat):Int) - 1;omega,by show ((j+1:Nat):Int) - 1≤9223372036854775807;omega⟩ ?_
      conv=>arg 5;whnf
      refine wp_must ⟨by show 0≤((j+1:Nat):Int) - 1;omega,by show ((j+1:Nat):Int) - 1<(n:Int);omega,hs.some (show j<n by omega)⟩ ?_
      conv=>arg 5;whnf
      refine readF (sz:=3) (k:=j) (f:=0) (.int .i64 y.s) rfl (.head _) (show j<n by omega) (hs.some (show j<n by omega)) (cellsA_at hy 0 _ rfl) (by rw [show (((j+1:Nat):Int) - 1).toNat=j by omega]) ?_
      conv=>arg 5;whnf
      refine wp_must ⟨by omega,by show ((j+1:Nat):Int)<(n:Int);omega,hs.some hlt⟩ ?_
      conv=>arg 5;whnf
      refine readF (sz:=3) (k:=j+1) (f:=0) (.int .i64 x.s) rfl (.head _) hlt (hs.some hlt) (cellsA_at hx 0 _ rfl) rfl ?_
      conv=>arg 5;whnf
      refine wp_br (fun h7=>?_) (fun h7=>?_)
      ·have h8:y.s≥x.s:=of_decide_eq_true h7
       conv=>arg 5;whnf
       exact wp_back fun β ρ w' hM'=>⟨bad (shOk_false (i:=j+1) (by rw [hS,decide_eq_false (show ¬ (acP y).1<(acP x).1 from by show ¬ y.s<x.s;omega)];rfl)),hM'.below⟩
      ·have h8:¬ y.s≥x.s:=of_decide_eq_false h7
       have hokk:okI (L.map acP) 0 1 C.per (j+1)=true:=by rw [hS,decide_eq_true (show (acP y).1<(acP x).1 from by show y.s<x.s;omega)];show (true&&checkV x.s x.b C.per x.l && !emptyV x.b x.l.length)=true;rw [hcv,hem];rfl
       conv=>arg 5;whnf
       refine wp_must ⟨by show -9223372036854775808≤(((j+1:Nat)):Int)+1;omega,by show (((j+1:Nat)):Int)+1≤9223372036854775807;omega⟩ ?_
       conv=>arg 5;whnf
       refine wp_end ⟨j+1+1,⟨hlt,hall true hokk⟩,⟨by repeat' first | exact trivial | refine ⟨.inl rfl,?_⟩ | refine ⟨.inr rfl,?_⟩,⟨by repeat' first | exact trivial | refine ⟨.inl rfl,?_⟩ | refine ⟨.inr rfl,?_⟩,by repeat' first | exact trivial | refine ⟨.inl rfl,?_⟩ | refine ⟨.inr rfl,?_⟩,fun _ h=>h⟩,rfl⟩,by show n - (j+1+1)<n - (j+1);omega⟩
     ·have hk0:k=0:=by have h6:¬ (0:Int)<(k:Int):=of_decide_eq_false h5;omega
      subst hk0
      have hokk:okI (L.map acP) 0 1 C.per 0=true:=by rw [okI_zero1 hxP];show (checkV x.s x.b C.per x.l && !emptyV x.b x.l.length)=true;rw [hcv,hem];rfl
      conv=>arg 5;whnf
      refine wp_must ⟨by show -9223372036854775808≤((0:Nat):Int)+1;omega,by show ((0:Nat):Int)+1≤9223372036854775807;omega⟩ ?_
      conv=>arg 5;whnf
      refine wp_end ⟨0+1,⟨hlt,hall true hokk⟩,⟨by repeat' first | exact trivial | refine ⟨.inl rfl,?_⟩ | refine ⟨.inr rfl,?_⟩,⟨by repeat' first | exact trivial | refine ⟨.inl rfl,?_⟩ | refine ⟨.inr rfl,?_⟩,by repeat' first | exact trivial | refine ⟨.inl rfl,?_⟩ | refine ⟨.inr rfl,?_⟩,fun _ h=>h⟩,rfl⟩,by show n - (0+1)<n - 0;omega⟩
  ·have hkn:k=n:=by have h3:=of_decide_eq_false (show decide ((k:Int)<(n:Int))=false from h1);omega
   have hfin:shOk (L.map acP) 0 1 C.per=true:=by unfold shOk;rw [List.length_map,← hn,← hkn];exact hok
   rw [hfin]
   conv=>arg 5;whnf
   exact wp_back fun β ρ w' hM'=>⟨rfl,hM'.below⟩
end Go.Proofs.YtfhgkkcpkcjbmaaGreatDoor.pool
namespace Go.Proofs.YtfhgkkcpkcjbmaaGreatDoor.pool
open Go.RowKit Sx txn queue greedy shard
theorem rempty (s b:Int) (a:Option Addr) (n c:Nat) (w:World) (hb:0≤b):Calls Tryz.prog 94 (List.toArray [acc s b a n c]) w fun e w'=>e=.returned (.bool (emptyV b n))∧Below w.heap.size w w':=by
 refine calls_of_exec Sxs.env_ok.keeps Tryz.func94 rfl [] (schedQ_ok _ _ (by kernel_rfl)) [] (by simp) ?_
 conv=>arg 5;whnf
 refine wp_g1 (fun h1=>?_) (fun h1=>?_)
 ·have h2:b=0:=eq_of_beq h1
  have e:emptyV b n=((n:Int)==0):=by unfold emptyV;rw [decide_eq_true (show b≤0 by omega),Bool.true_and,Bool.eq_iff_iff,beq_iff_eq,decide_eq_true_eq];omega
  rw [e]
  conv=>arg 5;whnf
  exact wp_back fun β ρ w' hM'=>⟨rfl,hM'.below⟩
 ·have h2:¬ b=0:=fun h=>by rw [h] at h1;cases h1
  have e:emptyV b n=false:=by unfold emptyV;rw [decide_eq_false (show ¬ b≤0 by omega)];rfl
  rw [e]
  conv=>arg 5;whnf
  exact wp_back fun β ρ w' hM'=>⟨rfl,hM'.below⟩
end Go.Proofs.YtfhgkkcpkcjbmaaGreatDoor.pool
namespace Go.Proofs.YtfhgkkcpkcjbmaaGreatDoor.pool
open Go.RowKit Sx txn queue greedy shard
structure Oq where
 k:Int
 s:Int
 v:Int
 g:Int
 d:ByteArray
def Oq.val (O:Oq):Value:=.agg #[.int .i64 O.k,.int .i64 O.s,.int .i64 O.v,.int .i64 O.g,.string O.d]
def askV (C:Cf) (a:Option Addr) (n c:Nat) (O:Oq):Value:=.agg #[.int .i64 C.sh,.int .i64 C.so,.int .i64 C.hd,.int .i64 C.per,.int .i64 C.bp,.int .i64 C.fd,.int .i64 C.wk,.int .i64 C.rm,.slice a n c,.int .i64 0,.int .i64 O.k,.int .i64 O.s,.int .i64 O.v,.int .i64 O.g,.string O.d]
structure Rq where
 e:Int
 t:Tx
 l:List Tx
 n:Int
def resV (r:Rq) (a:Option Addr) (c:Nat):Value:=.agg #[.int .i64 r.e,.int .i64 r.t.s,.int .i64 r.t.n,.int .i64 r.t.t,.int .i64 r.t.c,.int .i64 r.t.g,.string r.t.d,.slice a r.l.length c,.int .i64 r.n]
abbrev Ev:=Int×Tx
def evC (q:Ev):List Value:=[.int .i64 q.1,.int .i64 q.2.s,.int .i64 q.2.n,.int .i64 q.2.t,.int .i64 q.2.c,.int .i64 q.2.g,.string q.2.d,.int .i64 0]
def cellsE (l:List Ev):List Value:=l.flatMap evC
theorem cellsE_snoc (l:List Ev) (q:Ev):cellsE (l++[q])=cellsE l++evC q:=by simp [cellsE]
theorem cellsE_app (l r:List Ev):cellsE (l++r)=cellsE l++cellsE r:=by simp [cellsE]
theorem cellsE_length (l:List Ev):(cellsE l).length=l.length*8:=by
 induction l with
 | nil=>rfl
 | cons x l ih=>unfold cellsE at *;rw [List.flatMap_cons,List.length_append,ih];simp [evC];omega
theorem cellsE_one (l:List Ev):∀u∈cellsE l,u.oneCell'=true:=by
 intro u hu
 obtain ⟨x,_,hx⟩:=List.mem_flatMap.1 hu
 simp only [evC,List.mem_cons,List.not_mem_nil,or_false] at hx
 rcases hx with rfl | rfl | rfl | rfl | rfl | rfl | rfl | rfl <;> rfl
abbrev Rs3:=List PA×Rq×List Ev
structure An where
 a:Option Addr
 c:Nat
 L:List Ac
 ta:Option Addr
 tc:Nat
 ea:Option Addr
 ec:Nat
def An.ok (x:An) (R:Rs3):Prop:=x.L.map acP=R.1∧(∀y∈x.L,y.fit)∧Sl x.a x.L.length x.c∧Sl x.ta R.2.1.l.length x.tc∧Sl x.ea R.2.2.length x.ec
def An.v (x:An) (R:Rs3):Value:=.tuple #[.slice x.a x.L.length x.c,resV R.2.1 x.ta x.tc,.slice x.ea R.2.2.length x.ec]
def An.fs (x:An) (R:Rs3):List Fact:=rowF (pt x.ta R.2.1.l.length) (cellsL R.2.1.l)::rowF (pt x.ea R.2.2.length) (cellsE R.2.2)::acsF x.a x.L.length x.L
def Ans (w w':World) (old:List Fact) (e:Ending) (R:Rs3):Prop:=∃x:An,x.ok R∧Lay w w' old e (x.v R) (x.fs R)
theorem Ans.more {w w':World} {old old':List Fact} {e R} (h:Ans w w' old e R) (k:∀ψ∈old,∀g,ψ.g=some g→∃ψ'∈old',ψ'.g=some g):Ans w w' old' e R:=by
 obtain ⟨x,h1,h2⟩:=h
 exact ⟨x,h1,h2.more k⟩
section
variable {W : World} {G : Option Nat} {Q : Ending → World → Prop} {ds : List Deferred}
theorem meetAn {f:FuncId} {args:List Sx.T} {l:List Value} {m:M} {k:Value→List Fact→Tree} (R:Rs3) (old:List Fact) (hold:∀ψ∈old,ψ∈m.facts) (hv:valsOf args=some l) (hc:callable Tryz.prog f=true)
  (hC:∀β ρ w,Mem W G m β ρ w→Calls Tryz.prog f (List.toArray l) w fun e w'=>Ans w w' old e R)
  (h:∀x:An,x.ok R→(∀φ∈x.fs R,New W old φ)→(k (x.v R) (x.fs R)).wpD Tryz.prog W G Q ds):(Tree.call f args m k).wpD Tryz.prog W G Q ds:=
 meetLy (ι:=An) (ok:=fun x=>x.ok R) (v:=fun x=>x.v R) (fs:=fun x=>x.fs R) old hold hv hc hC h
end
theorem newO {W:World} {u:Option Addr} {n:Nat} {xs:List Value} (f:Fresh W none u):∀g,(rowF (pt u n) xs).g=some g→W.heap.size≤g:=fun g hg=>by
 by_cases h:n=0
 ·rw [show pt u n=none from if_pos h] at hg;cases hg
 ·rw [show pt u n=u from if_neg h] at hg
  cases u with
  | none=>cases hg
  | some ad=>cases hg;exact (f ad rfl).resolve_right (by simp)
def failP (P:List PA) (e:Int):Rs3:=(P,⟨e,tx0,[],0⟩,[])
theorem spl_acc (A B:List Ac) (y:Ac) (u:Option Addr) (cu:Nat):spl (cellsA (A++y::B)) (A.length*3+2) [.slice u y.n cu]=cellsA ((A++[⟨y.s,y.b,u,y.n,cu,y.l⟩])++B):=by
 unfold spl
 rw [cellsA_app,cellsA_app,cellsA_append]
 have h1:cellsA (y::B)=y.cs++cellsA B:=rfl
 have h2:(cellsA A).length=A.length*3:=cellsA_length A
 rw [h1,List.take_append,List.drop_append,h2]
 have e1:(cellsA A).take (A.length*3+2)=cellsA A:=List.take_of_length_le (by omega)
 have e2:(cellsA A).drop (A.length*3+2+[Value.slice u y.n cu].length)=[]:=List.drop_of_length_le (by rw [h2];simp only [List.length_singleton];omega)
 rw [e1,e2,show A.length*3+2 - A.length*3=2 by omega,show A.length*3+2+[Value.slice u y.n cu].length - A.length*3=3 by simp only [List.length_singleton];omega]
 simp [Ac.cs]
theorem tell (C:Cf) (O:Oq) (L:List Ac) (a:Option Addr) (n c:Nat) (r:Rq) (ta:Option Addr) (tc:Nat) (w:World) (hA:Acs w a n c L) (h1000:n≤100000) (hst:Sl ta r.l.length tc) (hrt:At w (pt ta r.l.length) (cellsL r.l)) :
  Calls Tryz.prog 117 (List.toArray [askV C a n c O,resV r ta tc]) w fun e w'=>Ans w w' [rowF (pt ta r.l.length) (cellsL r.l)] e (L.map acP,r,[]):=by
 have hs:=hA.1
 have hn:=hA.2.1
 have hn63:=hs.le
 refine calls_of_exec (Env.Ok.howD Sxs.env_ok.keeps [(121,.fresh 47 3)]) Tryz.func117 rfl [(7,(line [0,1,2,3,4],[2]))] (schedQ_ok _ _ (by kernel_rfl)) (rowF (pt ta r.l.length) (cellsL r.l)::acsF a n L) (fun φ hφ g hg=>(List.mem_cons.1 hφ).elim (fun e=>by subst e;exact hrt g hg) fun hφ=>hA.facts φ hφ g hg) ?_
 conv=>arg 5;whnf
 refine meetM n (cellsA L) rfl (by kernel_rfl) (fun β ρ w' hM'=>cloneA L a n c w' hs hn (hM'.at_ (.tail _ (.head _))) (by omega)) ?_
 conv=>arg 5;whnf
 refine loop_ruleE (Env.Ok.howD Sxs.env_ok.keeps [(121,.fresh 47 3)]) [(7,(line [0,1,2,3,4],[2]))] (schedQ_ok _ _ (by kernel_rfl)) [3,3] (fun i:Nat×List Ac=>i.1≤n∧i.2.length=i.1∧i.2.map acP=(L.take i.1).map acP∧(∀x∈i.2,x.fit)∧(∀φ∈i.2.map acF,∀g,φ.g=some g→w.heap.size≤g)) (fun i=>(⟨[some ([.v (.int .i64 C.sh),.v (.int .i64 C.so),.v (.int .i64 C.hd),.v (.int .i64 C.per),.v (.int .i64 C.bp),.v (.int .i64 C.fd),.v (.int .i64 C.wk),.v (.int .i64 C.rm),.v (.slice a n c),.v (.int .i64 0),.v (.int .i64 O.k),.v (.int .i64 O.s),.v (.int .i64 O.v),.v (.int .i64 O.g),.v (.string O.d)],127),some ([.v (.int .i64 r.e),.v (.int .i64 r.t.s),.v (.int .i64 r.t.n),.v (.int .i64 r.t.t),.v (.int .i64 r.t.c),.v (.int .i64 r.t.g),.v (.string r.t.d),.v (.slice ta r.l.length tc),.v (.int .i64 r.n)],41),some ([.v (.int .i64 0),.v (.int .i64 0),.v (.int .i64 0),.v (.int .i64 0),.v (.int .i64 0),.v (.int .i64 0),.v (.string ByteArray.empty),.v (.slice none 0 0),.v (.int .i64 0)],41)],[some ⟨47,3,n,cellsA (i.2++L.drop i.1)⟩],rowF (pt ta r.l.length) (cellsL r.l)::rowF (pt a n) (cellsA L)::(i.2.map acF++L.map acF)⟩,[.any,.any,.p 0 0,.p 1 0,.v (.slice none 0 0),.p 2 0,.v (.slice none 0 0),.r 0,.any,.any,.any,.any,.any,.any,.v (.int .i64 n),.v (.int .i64 i.1),.any,.any,.any,.any,.any,.any,.any,.any,.any,.any,.any,.any,.any,.any,.any])) (fun i=>n - i.1) (0,[]) ⟨Nat.zero_le _,rfl,rfl,by simp,by simp⟩ ⟨by repeat' first | exact trivial | refine ⟨.inl rfl,?_⟩ | refine ⟨.inr rfl,?_⟩,⟨by repeat' first | exact trivial | refine ⟨.inl rfl,?_⟩ | refine ⟨.inr rfl,?_⟩,by repeat' first | exact trivial | refine ⟨.inl rfl,?_⟩ | refine ⟨.inr rfl,?_⟩,fun _ h=>h⟩,rfl⟩ ?_
 rintro ⟨k,Ls⟩ ⟨hk,hLk,hLm,hLf,hLn⟩
 have hk:k≤n:=hk
 have hLk:Ls.length=k:=hLk
 conv=>arg 5;whnf
 refine wp_br (fun h1=>?_) (fun h1=>?_)
 ·have hlt:k<n:=by have h3:=of_decide_eq_true (show decide ((k:Int)<(n:Int))=true from h1);omega
  obtain ⟨y,hy⟩:∃y,L[k]?=some y:=⟨_,List.getElem?_eq_getElem (by omega)⟩
  have hym:y∈L:=List.mem_of_getElem? hy
  obtain ⟨⟨ys,yn,yl,yd⟩,_⟩:=hA.2.2.2 y hym
  have hdr:L.drop k=y::L.drop (k+1):=by
   have hkl:k<L.length:=by omega
   rw [List.drop_eq_getElem_cons hkl,(List.getElem?_eq_some_iff.1 hy).2]
  rw [show (k,Ls).2=Ls from rfl,show (k,Ls).1=k from rfl,hdr]
  have hyy:(Ls++y::L.drop (k+1))[k]?=some y:=by rw [List.getElem?_append_right (by omega),hLk];simp
  conv=>arg 5;whnf
  refine wp_must ⟨by omega,by show (k:Int)<(n:Int);omega⟩ ?_
  conv=>arg 5;whnf
  refine ⟨[.slice y.a y.n y.c],rfl,fun j u hu=>(by cases j with | zero=>(simp at hu;subst hu;exact cellsA_at hyy 2 _ rfl) | succ j=>simp at hu),?_⟩
  conv=>arg 5;whnf
  refine meetO (e:=38) (size:=6) y.n (cellsL y.l) rfl (by kernel_rfl) (fun β ρ w' hM'=>clone y.l y.a y.n y.c w' ys yn (hM'.at_ (.tail _ (.tail _ (List.mem_append_right _ (List.mem_map.2 ⟨y,hym,rfl⟩))))) yl) (fun u c_u h_u f_u=>?_)
  conv=>arg 5;whnf
  refine wp_must ⟨by omega,by show (k:Int)<(n:Int);omega⟩ ?_
  have es:spl (cellsA (Ls++y::L.drop (k+1))) (k*3+2) [.slice u y.n c_u]=cellsA ((Ls++[⟨y.s,y.b,u,y.n,c_u,y.l⟩])++L.drop (k+1)):=by rw [← hLk];exact spl_acc Ls _ y u c_u
  conv=>arg 5;whnf
  refine wp_must (by show k*3+2+1≤(cellsA (Ls++y::L.drop (k+1))).length;rw [cellsA_length,List.length_append,List.length_cons,hLk];omega) ?_
  conv=>arg 5;whnf
  refine wp_must ⟨by show -9223372036854775808≤(k:Int)+1;omega,by show (k:Int)+1≤9223372036854775807;omega⟩ ?_
  have hf2:(⟨y.s,y.b,u,y.n,c_u,y.l⟩:Ac).fit:=⟨h_u,yn,yl,yd⟩
  conv=>arg 5;whnf
  refine wp_end ⟨(k+1,Ls++[⟨y.s,y.b,u,y.n,c_u,y.l⟩]),⟨hlt,by rw [List.length_append,hLk];rfl,by rw [List.map_append,hLm,List.take_add_one,hy,List.map_append];rfl,fun x hx=>(List.mem_append.1 hx).elim (hLf x) (fun h=>by rw [List.mem_singleton] at h;subst h;exact hf2),fun φ hφ=>by
    rw [List.map_append] at hφ
    rcases List.mem_append.1 hφ with hφ | hφ
    ·exact hLn φ hφ
    ·simp only [List.map_cons,List.map_nil,List.mem_singleton] at hφ
     subst hφ
     intro g hg
     exact newO f_u g hg⟩,⟨by repeat' first | exact trivial | refine ⟨.inl rfl,?_⟩ | refine ⟨.inr rfl,?_⟩,⟨by repeat' first | exact trivial | refine ⟨.inl rfl,?_⟩ | refine ⟨.inr rfl,?_⟩,by simp only [];rw [← es];repeat' first | exact trivial | refine ⟨.inl rfl,?_⟩ | refine ⟨.inr rfl,?_⟩,fun φ hφ=>by
   rcases List.mem_cons.1 hφ with rfl | hφ
   ·exact .tail _ (.head _)
   ·rcases List.mem_cons.1 hφ with rfl | hφ
    ·exact .tail _ (.tail _ (.head _))
    ·rcases List.mem_append.1 hφ with hφ | hφ
     ·rw [List.map_append] at hφ
      rcases List.mem_append.1 hφ with hφ | hφ
      ·exact .tail _ (.tail _ (.tail _ (List.mem_append_left _ hφ)))
      ·simp only [List.map_cons,List.map_nil,List.mem_singleton] at hφ
       subst hφ
       exact .head _
     ·exact .tail _ (.tail _ (.tail _ (List.mem_append_right _ hφ)))⟩,rfl⟩,by show n - (k+1)<n - k;omega⟩
 ·have hkn:k=n:=by have h3:=of_decide_eq_false (show decide ((k:Int)<(n:Int))=false from h1);omega
  have e:L.take k=L:=List.take_of_length_le (by omega)
  have e2:L.drop k=[]:=List.drop_of_length_le (by omega)
  rw [show (k,Ls).2=Ls from rfl,show (k,Ls).1=k from rfl,e2,List.append_nil]
  rw [e] at hLm
  have hLn2:n=Ls.length:=by omega
  rw [hLn2]
  conv=>arg 5;whnf
  refine wp_share fun u c_u h_u f_u=>?_
  conv=>arg 5;whnf
  refine wp_back fun β ρ w' hM'=>⟨⟨u,c_u,Ls,ta,tc,none,0⟩,⟨hLm,hLf,h_u,hst,sl0⟩,rfl,hM'.below,fun φ hφ g hg=>?_⟩
  rcases List.mem_cons.1 hφ with rfl | hφ
  ·exact ⟨.inr ⟨_,.head _,hg⟩,(hM'.fact _ (.tail _ (.head _)) g hg).2⟩
  ·rcases List.mem_cons.1 hφ with rfl | hφ
   ·cases hg
   ·rcases List.mem_cons.1 hφ with rfl | hφ
    ·have:=giveF _ hM' (.head _) f_u g hg
     exact ⟨.inl this.1,this.2⟩
    ·exact ⟨.inl (hLn φ hφ g hg),(hM'.fact φ (.tail _ (.tail _ (.tail _ (List.mem_append_left _ hφ)))) g hg).2⟩
end Go.Proofs.YtfhgkkcpkcjbmaaGreatDoor.pool
namespace Go.Proofs.YtfhgkkcpkcjbmaaGreatDoor.pool
open Go.RowKit Sx txn queue greedy shard
theorem fail (C:Cf) (O:Oq) (L:List Ac) (a:Option Addr) (n c:Nat) (er:Int) (w:World) (hA:Acs w a n c L) (h1000:n≤100000) :
  Calls Tryz.prog 58 (List.toArray [askV C a n c O,.int .i64 er]) w fun e w'=>Ans w w' [] e (failP (L.map acP) er):=by
 refine calls_of_exec Sxs.env_ok.keeps Tryz.func58 rfl [] (schedQ_ok _ _ (by kernel_rfl)) (acsF a n L) hA.facts ?_
 conv=>arg 5;whnf
 refine meetAn (f:=117) (failP (L.map acP) er) [] (by simp) rfl (by kernel_rfl) (fun β ρ w' hM'=>(tell C O L a n c ⟨er,tx0,[],0⟩ none 0 w' (Mem.acs hA hM' fun φ hφ=>hφ) h1000 sl0 (fun g hg=>by cases hg)).mono fun e w2 h=>h.more (fun ψ hψ g hg=>by simp only [List.mem_singleton] at hψ;subst hψ;cases hg)) (fun x hx hnew=>?_)
 conv=>arg 5;whnf
 refine wp_back fun β ρ w' hM'=>⟨x,hx,rfl,hM'.below,fun φ hφ g hg=>⟨hnew φ hφ g hg,(hM'.fact φ (List.mem_append_left _ hφ) g hg).2⟩⟩
theorem put (C:Cf) (O:Oq) (L:List Ac) (a:Option Addr) (n c:Nat) (p:PA) (a0:Option Addr) (c0:Nat) (r:Rq) (ta:Option Addr) (tc:Nat) (ev:List Ev) (ea:Option Addr) (ec:Nat) (w:World) (hA:Acs w a n c L) (h1000:n≤100000)
  (hs0:Sl a0 p.2.2.length c0) (hl0:p.2.2.length≤1000000) (hd0:∀t∈p.2.2,t.d.size≤maxLen) (hr0:At w (pt a0 p.2.2.length) (cellsL p.2.2)) (hst:Sl ta r.l.length tc) (hrt:At w (pt ta r.l.length) (cellsL r.l)) (hse:Sl ea ev.length ec) (hre:At w (pt ea ev.length) (cellsE ev)) :
  Calls Tryz.prog 166 (List.toArray [askV C a n c O,acc p.1 p.2.1 a0 p.2.2.length c0,resV r ta tc,.slice ea ev.length ec]) w fun e w'=>Ans w w' [rowF (pt ta r.l.length) (cellsL r.l),rowF (pt ea ev.length) (cellsE ev)] e (setP (L.map acP) p,r,ev):=by
 have ST:=fun w hA hr=>set 0 L a n c p.1 p.2.1 p.2.2 a0 p.2.2.length c0 w hA h1000 hs0 rfl hl0 hd0 hr
 have ep:(p.1,p.2.1,p.2.2)=p:=rfl
 rw [ep] at ST
 generalize setP (L.map acP) p=sp at *
 refine calls_of_exec Sxs.env_ok.keeps Tryz.func166 rfl [(1,(line [0,1,2,5,6,3,4,7,8,9],[3]))] (schedQ_ok _ _ (by kernel_rfl)) (rowF (pt a0 p.2.2.length) (cellsL p.2.2)::rowF (pt ta r.l.length) (cellsL r.l)::rowF (pt ea ev.length) (cellsE ev)::acsF a n L) (fun φ hφ g hg=>(List.mem_cons.1 hφ).elim (fun e=>by subst e;exact hr0 g hg) fun hφ=>(fun φ hφ g hg=>(List.mem_cons.1 hφ).elim (fun e=>by subst e;exact hrt g hg) fun hφ=>(fun φ hφ g hg=>(List.mem_cons.1 hφ).elim (fun e=>by subst e;exact hre g hg) fun hφ=>hA.facts φ hφ g hg) φ hφ g hg) φ hφ g hg) ?_
 conv=>arg 5;whnf
 refine meetSh (f:=129) sp (nextV 0) rfl (by kernel_rfl) (fun β ρ w' hM'=>ST w' (Mem.acs hA hM' fun φ hφ=>.tail _ (.tail _ (.tail _ (hφ)))) (hM'.at_ (.head _))) (fun Ls u c_u hLm hLf h_u hnew=>?_)
 conv=>arg 5;whnf
 refine wp_prim (.slice u Ls.length c_u) (fun w=>by kernel_rfl) ?_
 conv=>arg 5;whnf
 refine wp_back fun β ρ w' hM'=>⟨⟨u,c_u,Ls,ta,tc,ea,ec⟩,⟨hLm,hLf,h_u,hst,hse⟩,rfl,hM'.below,fun φ hφ g hg=>?_⟩
 rcases List.mem_cons.1 hφ with rfl | hφ
 ·exact ⟨.inr ⟨_,.head _,hg⟩,(hM'.fact (rowF (pt ta r.l.length) (cellsL r.l)) (.tail _ (List.mem_append_right (List.map acF Ls) (show rowF (pt ta r.l.length) (cellsL r.l)∈rowF (pt a0 p.2.2.length) (cellsL p.2.2)::rowF (pt ta r.l.length) (cellsL r.l)::rowF (pt ea ev.length) (cellsE ev)::acsF a n L from .tail _ (.head _)))) g hg).2⟩
 ·rcases List.mem_cons.1 hφ with rfl | hφ
  ·exact ⟨.inr ⟨_,.tail _ (.head _),hg⟩,(hM'.fact (rowF (pt ea ev.length) (cellsE ev)) (.tail _ (List.mem_append_right (List.map acF Ls) (show rowF (pt ea ev.length) (cellsE ev)∈rowF (pt a0 p.2.2.length) (cellsL p.2.2)::rowF (pt ta r.l.length) (cellsL r.l)::rowF (pt ea ev.length) (cellsE ev)::acsF a n L from .tail _ (.tail _ (.head _))))) g hg).2⟩
  ·exact ⟨.inl (hnew φ hφ g hg),(hM'.fact φ (List.mem_append_left _ hφ) g hg).2⟩
def evL (κ:Int) (l:List Tx):List Ev:=l.map fun t=>(κ,t)
theorem evL_take {κ:Int} {l:List Tx} {k:Nat} {x:Tx} (h:l[k]?=some x):evL κ (l.take (k+1))=evL κ (l.take k)++[(κ,x)]:=by unfold evL;rw [List.take_add_one,h,List.map_append];rfl
theorem evL_len (κ:Int) (l:List Tx):(evL κ l).length=l.length:=List.length_map _
theorem became (κ:Int) (l:List Tx) (a:Option Addr) (n c:Nat) (w:World) (hs:Sl a n c) (hn:n=l.length) (hrow:At w (pt a n) (cellsL l)) (hl:n≤1000000) :
  Calls Tryz.prog 168 (List.toArray [.int .i64 κ,.slice a n c]) w fun e w'=>∃i:One,Sl i.1 (evL κ l).length i.2∧Gives w w' e (.slice i.1 (evL κ l).length i.2) [rowF (pt i.1 (evL κ l).length) (cellsE (evL κ l))]:=by
 have hn63:=hs.le
 refine calls_of_exec Sxs.env_ok.keeps Tryz.func168 rfl [] (schedQ_ok _ _ (by kernel_rfl)) [rowF (pt a n) (cellsL l)] (at1 hrow) ?_
 conv=>arg 5;whnf
 refine loop_nil 5 122 8 rfl ?_
 refine loop_ruleE Sxs.env_ok.keeps [] (schedQ_ok _ _ (by kernel_rfl)) [0,0] (fun k:Nat=>k≤n) (fun k=>(⟨[],[some ⟨122,8,k,cellsE (evL κ (l.take k))⟩],[rowF (pt a n) (cellsL l)]⟩,[.v (.int .i64 κ),.any,.any,.any,.v (.slice none 0 0),.r 0,.any,.any,.v (.slice a n c),.v (.int .i64 n),.v (.int .i64 k),.any,.any,.any,.any,.any,.any,.any,.any,.any,.any,.any])) (fun k=>n - k) 0 (Nat.zero_le _) ⟨by repeat' first | exact trivial | refine ⟨.inl rfl,?_⟩ | refine ⟨.inr rfl,?_⟩,⟨by repeat' first | exact trivial | refine ⟨.inl rfl,?_⟩ | refine ⟨.inr rfl,?_⟩,by repeat' first | exact trivial | refine ⟨.inl rfl,?_⟩ | refine ⟨.inr rfl,?_⟩,fun _ h=>h⟩,rfl⟩ ?_
 intro k hk
 conv=>arg 5;whnf
 refine wp_br (fun h1=>?_) (fun h1=>?_)
 ·have hlt:k<n:=by have h3:=of_decide_eq_true (show decide ((k:Int)<(n:Int))=true from h1);omega
  obtain ⟨y,hy⟩:∃y,l[k]?=some y:=⟨_,List.getElem?_eq_getElem (by omega)⟩
  have ec:cellsE (evL κ (l.take (k+1)))=cellsE (evL κ (l.take k))++evC (κ,y):=by rw [evL_take hy,cellsE_snoc]
  conv=>arg 5;whnf
  refine wp_must ⟨by omega,by show (k:Int)<(n:Int);omega,hs.some hlt⟩ ?_
  conv=>arg 5;whnf
  refine readG Sxs.env_ok (vs:=cellsX y) (sz:=6) (k:=k) rfl rfl (.head _) hlt (hs.some hlt) (cellsL_at hy) rfl ?_
  conv=>arg 5;whnf
  refine wp_must ⟨by show k+1≤maxLen;unfold maxLen;omega,by show (k+1)*72≤140737488355328;omega⟩ ?_
  conv=>arg 5;whnf
  refine wp_must ⟨by show -9223372036854775808≤(k:Int)+1;omega,by show (k:Int)+1≤9223372036854775807;omega⟩ ?_
  conv=>arg 5;whnf
  refine wp_end ⟨k+1,hlt,⟨by repeat' first | exact trivial | refine ⟨.inl rfl,?_⟩ | refine ⟨.inr rfl,?_⟩,⟨by repeat' first | exact trivial | refine ⟨.inl rfl,?_⟩ | refine ⟨.inr rfl,?_⟩,by rw [ec];repeat' first | exact trivial | refine ⟨.inl rfl,?_⟩ | refine ⟨.inr rfl,?_⟩,fun _ h=>h⟩,rfl⟩,by show n - (k+1)<n - k;omega⟩
 ·have hkn:k=n:=by have h3:=of_decide_eq_false (show decide ((k:Int)<(n:Int))=false from h1);omega
  have e:l.take k=l:=List.take_of_length_le (by omega)
  rw [e,hkn]
  have el:(evL κ l).length=n:=by rw [evL_len];omega
  rw [el]
  conv=>arg 5;whnf
  refine wp_share fun u c_u h_u f_u=>?_
  conv=>arg 5;whnf
  refine wp_back fun β ρ w' hM'=>⟨(u,c_u),h_u,rfl,hM'.below,fun φ hφ=>?_⟩
  simp only [List.mem_singleton] at hφ
  subst hφ
  exact giveF _ hM' (.head _) f_u
end Go.Proofs.YtfhgkkcpkcjbmaaGreatDoor.pool
namespace Go.Proofs.YtfhgkkcpkcjbmaaGreatDoor.pool
open Go.RowKit Sx txn queue greedy shard
theorem getP_fit {L:List Ac} (h:∀x∈L,x.fit) (s:Int):(getP (L.map acP) s).2.2.length≤1000000∧∀t∈(getP (L.map acP) s).2.2,t.d.size≤maxLen:=by
 cases e:ofS s L with
 | nil=>rw [getP_nil e];exact ⟨Nat.zero_le _,fun t ht=>by cases ht⟩
 | cons x r=>
  rw [getP_cons e]
  have hx:x∈L:=by
   have:x∈ofS s L:=by rw [e];exact .head _
   unfold ofS ofK at this
   exact (List.mem_filter.1 this).1
  exact ⟨(h x hx).2.2.1,(h x hx).2.2.2⟩
theorem more2 {φ:Fact}:∀ψ∈[rowF (pt none 0) (cellsL []),φ],∀g,ψ.g=some g→∃ψ'∈[φ],ψ'.g=some g:=fun ψ hψ g hg=>by
 simp only [List.mem_cons,List.not_mem_nil,or_false] at hψ
 rcases hψ with rfl | rfl
 ·cases hg
 ·exact ⟨_,.head _,hg⟩
def dropP (P:List PA) (s v:Int):Rs3:=if (findV (getP P s).2.2 v).2=true then (setP P ((getP P s).1,(getP P s).2.1,dropV v (getP P s).2.2),⟨0,(findV (getP P s).2.2 v).1,[],0⟩,[(3,(findV (getP P s).2.2 v).1)]) else failP P 7
theorem drop (C:Cf) (O:Oq) (L:List Ac) (a:Option Addr) (n c:Nat) (s v:Int) (w:World) (hA:Acs w a n c L) (h1000:n≤100000) :
  Calls Tryz.prog 169 (List.toArray [askV C a n c O,.int .i64 s,.int .i64 v]) w fun e w'=>Ans w w' [] e (dropP (L.map acP) s v):=by
 have GT:=fun w hA=>get 0 L a n c s w hA (by omega)
 obtain ⟨hp1,hp2⟩:=getP_fit (fun x hx=>(hA.2.2.2 x hx).1) s
 have hR:dropP (L.map acP) s v=if (findV (getP (L.map acP) s).2.2 v).2=true then (setP (L.map acP) ((getP (L.map acP) s).1,(getP (L.map acP) s).2.1,dropV v (getP (L.map acP) s).2.2),⟨0,(findV (getP (L.map acP) s).2.2 v).1,[],0⟩,[(3,(findV (getP (L.map acP) s).2.2 v).1)]) else failP (L.map acP) 7:=rfl
 rw [hR]
 clear hR
 generalize getP (L.map acP) s=p at *
 have FI:=fun u c_u w' (h_u:Sl u p.2.2.length c_u) hr=>find p.1 p.2.1 p.2.2 u p.2.2.length c_u v w' h_u rfl hr
 have hdl:(dropV v p.2.2).length≤1000000:=Nat.le_trans (List.length_filter_le ..) hp1
 have hdd:∀t∈dropV v p.2.2,t.d.size≤maxLen:=fun t ht=>hp2 t (List.mem_filter.1 ht).1
 have DR:=fun u c_u w' (h_u:Sl u p.2.2.length c_u) hr=>queue.drop p.1 p.2.1 p.2.2 u p.2.2.length c_u v w' h_u rfl hr hp1
 generalize dropV v p.2.2=dl at *
 generalize findV p.2.2 v=q at *
 obtain ⟨t,fd⟩:=q
 refine calls_of_exec Sxs.env_ok.keeps.soon_ Tryz.func169 rfl [(5,(.one 0 (.one 1 (.one 2 (.one 4 (.one 5 (.one 6 (.fork 3 (.one 7 (.one 8 (.one 9 (.one 10 (.one 11 (.one 12 (.one 13 (.one 14 (.one 15 (.done)))))))))) 7 (.one 3 (.one 8 (.one 9 (.one 10 (.one 11 (.one 12 (.one 13 (.one 14 (.one 15 (.done)))))))))))))))),[1]))] (schedQ_ok _ _ (by kernel_rfl)) (acsF a n L) hA.facts ?_
 conv=>arg 5;whnf
 refine meet1F (f:=125) (n:=p.2.2.length) (v:=fun a1 c1=>acc p.1 p.2.1 a1 p.2.2.length c1) (xs:=cellsL p.2.2) rfl (by kernel_rfl) (fun β ρ w' hM'=>GT w' (Mem.acs hA hM' fun φ hφ=>hφ)) (fun u c_u h_u f_u=>?_)
 conv=>arg 5;whnf
 refine meetc (f:=165) (v:=.tuple #[t.val,.bool fd]) rfl (by kernel_rfl) (fun β ρ w' hM'=>FI u c_u w' h_u (hM'.at_ (.head _))) ?_
 cases fd with
 | false=>
  rw [if_neg (by simp)]
  conv=>arg 5;whnf
  refine meetAn (f:=58) (failP (L.map acP) (7)) [] (by simp) rfl (by kernel_rfl) (fun β ρ w' hM'=>fail C O L a n c (7) w' (Mem.acs hA hM' fun φ hφ=>.tail _ (hφ)) h1000) (fun x hx hnew=>?_)
  conv=>arg 5;whnf
  refine wp_back fun β ρ w' hM'=>⟨x,hx,rfl,hM'.below,fun φ hφ g hg=>⟨hnew φ hφ g hg,(hM'.fact φ (List.mem_append_left _ hφ) g hg).2⟩⟩
 | true=>
  rw [if_pos rfl]
  conv=>arg 5;whnf
  refine wp_both ?_ ?_
  ·(conv=>arg 5;whnf)
   refine meet1F (f:=185) (n:=dl.length) (v:=fun a1 c1=>acc p.1 p.2.1 a1 dl.length c1) (xs:=cellsL dl) rfl (by kernel_rfl) (fun β ρ w' hM'=>DR u c_u w' h_u (hM'.at_ (.head _))) (fun y c_y h_y f_y=>?_)
   conv=>arg 5;whnf
   refine wp_share fun z c_z h_z f_z=>?_
   conv=>arg 5;whnf
   refine meet1F (f:=168) (n:=1) (v:=fun a1 c1=>.slice a1 1 c1) (xs:=cellsE [(3,t)]) rfl (by kernel_rfl) (fun β ρ w' hM'=>became 3 [t] z 1 c_z w' h_z rfl (at_any 1 (hM'.at_ (a:=z) (xs:=cellsL [t]) (.head _))) (by omega)) (fun b c_b h_b f_b=>?_)
   conv=>arg 5;whnf
   refine meetAn (f:=166) (setP (L.map acP) (p.1,p.2.1,dl),⟨0,t,[],0⟩,[(3,t)]) [rowF (pt b 1) (cellsE [(3,t)])] (fun ψ h=>by simp only [List.mem_singleton] at h;subst h;exact .head _) rfl (by kernel_rfl) (fun β ρ w' hM'=>(put C O L a n c (p.1,p.2.1,dl) y c_y ⟨0,t,[],0⟩ none 0 [(3,t)] b c_b w' (Mem.acs hA hM' fun φ hφ=>.tail _ (.tail _ (.tail _ (.tail _ (hφ))))) h1000 h_y hdl hdd (hM'.at_ (.tail _ (.tail _ (.head _)))) sl0 (fun g hg=>by cases hg) h_b (hM'.at_ (.head _))).mono fun e w2 h=>h.more more2) (fun x hx hnew=>?_)
   conv=>arg 5;whnf
   refine wp_back fun β ρ w' hM'=>⟨x,hx,rfl,hM'.below,fun φ hφ g hg=>⟨((hnew φ hφ g hg).elim .inl fun ⟨ψ,h1,h2⟩=>by simp only [List.mem_singleton] at h1;subst h1;exact .inl (f_b g h2)),(hM'.fact φ (List.mem_append_left _ hφ) g hg).2⟩⟩
  ·(conv=>arg 5;whnf)
   refine wp_share fun z c_z h_z f_z=>?_
   conv=>arg 5;whnf
   refine meet1F (f:=185) (n:=dl.length) (v:=fun a1 c1=>acc p.1 p.2.1 a1 dl.length c1) (xs:=cellsL dl) rfl (by kernel_rfl) (fun β ρ w' hM'=>DR u c_u w' h_u (hM'.at_ (.tail _ (.head _)))) (fun y c_y h_y f_y=>?_)
   conv=>arg 5;whnf
   refine meet1F (f:=168) (n:=1) (v:=fun a1 c1=>.slice a1 1 c1) (xs:=cellsE [(3,t)]) rfl (by kernel_rfl) (fun β ρ w' hM'=>became 3 [t] z 1 c_z w' h_z rfl (at_any 1 (hM'.at_ (a:=z) (xs:=cellsL [t]) (.tail _ (.head _)))) (by omega)) (fun b c_b h_b f_b=>?_)
   conv=>arg 5;whnf
   refine meetAn (f:=166) (setP (L.map acP) (p.1,p.2.1,dl),⟨0,t,[],0⟩,[(3,t)]) [rowF (pt b 1) (cellsE [(3,t)])] (fun ψ h=>by simp only [List.mem_singleton] at h;subst h;exact .head _) rfl (by kernel_rfl) (fun β ρ w' hM'=>(put C O L a n c (p.1,p.2.1,dl) y c_y ⟨0,t,[],0⟩ none 0 [(3,t)] b c_b w' (Mem.acs hA hM' fun φ hφ=>.tail _ (.tail _ (.tail _ (.tail _ (hφ))))) h1000 h_y hdl hdd (hM'.at_ (.tail _ (.head _))) sl0 (fun g hg=>by cases hg) h_b (hM'.at_ (.head _))).mono fun e w2 h=>h.more more2) (fun x hx hnew=>?_)
   conv=>arg 5;whnf
   refine wp_back fun β ρ w' hM'=>⟨x,hx,rfl,hM'.below,fun φ hφ g hg=>⟨((hnew φ hφ g hg).elim .inl fun ⟨ψ,h1,h2⟩=>by simp only [List.mem_singleton] at h1;subst h1;exact .inl (f_b g h2)),(hM'.fact φ (List.mem_append_left _ hφ) g hg).2⟩⟩
def getR (P:List PA) (s v:Int):Rs3:=if (findV (getP P s).2.2 v).2=true then (P,⟨0,(findV (getP P s).2.2 v).1,[],0⟩,[]) else failP P 7
def evictR (C:Cf) (P:List PA) (t:Tx):Rs3:=if slotsP P≤C.so then failP P 7 else dropP P t.s t.n
theorem evict (C:Cf) (O:Oq) (L:List Ac) (a:Option Addr) (n c:Nat) (w:World) (hM:Most w) (hA:Acs w a n c L) (h1000:n≤100000) :
  Calls Tryz.prog 114 (List.toArray [askV C a n c O]) w fun e w'=>Ans w w' [] e (evictR C (L.map acP) (worstV L).1):=by
 have SL:=fun w hM hA=>slots 0 L a n c w hM hA (by omega)
 have WO:=fun w hM hA=>worst L a n c w hM hA h1000
 have hR:evictR C (L.map acP) (worstV L).1=if slotsA L≤C.so then failP (L.map acP) 7 else dropP (L.map acP) (worstV L).1.s (worstV L).1.n:=by rw [slotsA_P];rfl
 rw [hR]
 clear hR
 generalize worstV L=q at *
 obtain ⟨t,fd⟩:=q
 refine calls_of_exec Sxs.env_ok.keeps.soon_ Tryz.func114 rfl [(1,(line [0,1,3,4,5,2,6],[]))] (schedQ_ok _ _ (by kernel_rfl)) (acsF a n L) hA.facts ?_
 conv=>arg 5;whnf
 refine meetc (f:=164) (v:=.int .i64 (slotsA L)) rfl (by kernel_rfl) (fun β ρ w' hM'=>SL w' (hM.later hM'.below) (Mem.acs hA hM' fun φ hφ=>hφ)) ?_
 conv=>arg 5;whnf
 refine wp_br (fun h1=>?_) (fun h1=>?_)
 ·rw [if_pos (of_decide_eq_true h1)]
  conv=>arg 5;whnf
  refine meetAn (f:=58) (failP (L.map acP) (7)) [] (by simp) rfl (by kernel_rfl) (fun β ρ w' hM'=>fail C O L a n c (7) w' (Mem.acs hA hM' fun φ hφ=>hφ) h1000) (fun x hx hnew=>?_)
  conv=>arg 5;whnf
  refine wp_back fun β ρ w' hM'=>⟨x,hx,rfl,hM'.below,fun φ hφ g hg=>⟨hnew φ hφ g hg,(hM'.fact φ (List.mem_append_left _ hφ) g hg).2⟩⟩
 ·rw [if_neg (of_decide_eq_false h1)]
  conv=>arg 5;whnf
  refine meetc (f:=123) (v:=.tuple #[t.val,.bool fd]) rfl (by kernel_rfl) (fun β ρ w' hM'=>WO w' (hM.later hM'.below) (Mem.acs hA hM' fun φ hφ=>hφ)) ?_
  conv=>arg 5;whnf
  refine meetAn (f:=169) (dropP (L.map acP) t.s t.n) [] (by simp) rfl (by kernel_rfl) (fun β ρ w' hM'=>drop C O L a n c t.s t.n w' (Mem.acs hA hM' fun φ hφ=>hφ) h1000) (fun x hx hnew=>?_)
  conv=>arg 5;whnf
  refine wp_back fun β ρ w' hM'=>⟨x,hx,rfl,hM'.below,fun φ hφ g hg=>⟨hnew φ hφ g hg,(hM'.fact φ (List.mem_append_left _ hφ) g hg).2⟩⟩
end Go.Proofs.YtfhgkkcpkcjbmaaGreatDoor.pool
namespace Go.Proofs.YtfhgkkcpkcjbmaaGreatDoor.pool
open Go.RowKit Sx txn queue greedy shard
theorem putGo_bd (is:Bool) (t:Tx):∀(l:List Tx) (b:Bool),(putGo is t l b).length≤l.length+1∧(b=true→(putGo is t l b).length≤l.length)∧∀x∈putGo is t l b,x∈l∨x=t
 | [],b=>by cases b <;> simp [putGo]
 | x::l,b=>by
  obtain ⟨h1,h2,h3⟩:=putGo_bd is t l true
  obtain ⟨g1,g2,g3⟩:=putGo_bd is t l false
  have h2:=h2 rfl
  unfold putGo
  cases b with
  | true=>
   simp only [Bool.not_true,Bool.false_and,cond_false,List.length_cons]
   refine ⟨by omega,fun _=>by omega,fun y hy=>?_⟩
   rcases List.mem_cons.1 hy with rfl | hy
   ·exact .inl (.head _)
   ·exact (h3 y hy).elim (fun h=>.inl (.tail _ h)) .inr
  | false=>
   simp only [Bool.not_false,Bool.true_and]
   cases (x.n==t.n) with
   | true=>
    simp only [cond_true,List.length_cons]
    refine ⟨by omega,fun h=>(by cases h),fun y hy=>?_⟩
    rcases List.mem_cons.1 hy with rfl | hy
    ·exact .inr rfl
    ·exact (h3 y hy).elim (fun h=>.inl (.tail _ h)) .inr
   | false=>
    cases (!is&&decide (x.n>t.n)) with
    | true=>
     simp only [cond_true,cond_false,List.length_cons]
     refine ⟨by omega,fun h=>(by cases h),fun y hy=>?_⟩
     rcases List.mem_cons.1 hy with rfl | hy
     ·exact .inr rfl
     ·rcases List.mem_cons.1 hy with rfl | hy
      ·exact .inl (.head _)
      ·exact (h3 y hy).elim (fun h=>.inl (.tail _ h)) .inr
    | false=>
     simp only [cond_false,List.length_cons]
     refine ⟨by omega,fun h=>(by cases h),fun y hy=>?_⟩
     rcases List.mem_cons.1 hy with rfl | hy
     ·exact .inl (.head _)
     ·exact (g3 y hy).elim (fun h=>.inl (.tail _ h)) .inr
theorem putV_bd (t:Tx) (l:List Tx):(putV t l).length≤l.length+1∧∀x∈putV t l,x∈l∨x=t:=⟨(putGo_bd _ t l false).1,(putGo_bd _ t l false).2.2⟩
theorem placeV_ok {s b per:Int} {l:List Tx} {t:Tx} {bump:Int} (h:(placeV s b per l t bump).2=0):checkV s b per l=true∧t.ok=true∧t.s=s∧b≤t.n∧inB bump 0 100=true∧-13≤(placeV s b per l t bump).1∧(placeV s b per l t bump).1≤13:=by
 unfold placeV at h ⊢
 cases h1:(checkV s b per l&&t.ok&&(t.s==s)&&inB bump 0 100) with
 | false=>rw [h1] at h;exact absurd h (by simp)
 | true=>
  rw [h1] at h
  simp only [Bool.and_eq_true,beq_iff_eq] at h1
  cases h2:decide (t.n<b) with
  | true=>rw [h2] at h;exact absurd h (by simp)
  | false=>
   rw [h2] at h
   have h3:=of_decide_eq_false h2
   refine ⟨h1.1.1.1,h1.1.1.2,h1.1.2,by omega,h1.2,?_⟩
   simp only [Bool.not_true,cond_false]
   have hb1:=slotV_bd t
   have hb2:=slotV_bd (findV l t.n).1
   cases (findV l t.n).2 with
   | true=>
    simp only [cond_true]
    unfold replV
    cases (!rz.raiseB (findV l t.n).1.t bump||decide (t.t<rz.raiseV (findV l t.n).1.t bump)) with
    | true=>simp
    | false=>simp only [cond_false];omega
   | false=>
    simp only [cond_false]
    cases ((l.length:Int)==per) with
    | true=>simp
    | false=>simp only [cond_false];omega
section
variable {P : Program} {W : World} {G : Option Nat} {Q : Ending → World → Prop} {ds : List Deferred}
theorem meet2F {f:FuncId} {args:List Sx.T} {l:List Value} {m:M} {k:Value→List Fact→Tree} {n n2:Nat} {v:Option Addr→Nat→Option Addr→Nat→Value} {xs ys:List Value} (hv:valsOf args=some l) (hc:callable P f=true)
  (hC:∀β ρ w,Mem W G m β ρ w→Calls P f (List.toArray l) w fun e w'=>∃i:Two,(Sl i.1.1 n i.1.2∧Sl i.2.1 n2 i.2.2)∧Gives w w' e (v i.1.1 i.1.2 i.2.1 i.2.2) [rowF (pt i.1.1 n) xs,rowF (pt i.2.1 n2) ys]) (h:∀a c a2 c2,Sl a n c→Sl a2 n2 c2→(∀φ∈[rowF (pt a n) xs,rowF (pt a2 n2) ys],∀g,φ.g=some g→W.heap.size≤g)→(k (v a c a2 c2) [rowF (pt a n) xs,rowF (pt a2 n2) ys]).wpD P W G Q ds):(Tree.call f args m k).wpD P W G Q ds:=
 meetR (ι:=Two) (ok:=fun i=>(Sl i.1.1 n i.1.2∧Sl i.2.1 n2 i.2.2)∧∀φ∈[rowF (pt i.1.1 n) xs,rowF (pt i.2.1 n2) ys],∀g,φ.g=some g→W.heap.size≤g) (v:=fun i=>v i.1.1 i.1.2 i.2.1 i.2.2) (fs:=fun i=>[rowF (pt i.1.1 n) xs,rowF (pt i.2.1 n2) ys]) hc (fun β ρ w vs hm hr=>by
  rw [valsOf_spec _ _ _ hv hr]
  exact (hC β ρ w hm).mono fun e w' ⟨i,hi,hg⟩=>⟨i,⟨hi,fun φ hφ g hgg=>Nat.le_trans hm.grown.size (hg.2.2 φ hφ g hgg).1⟩,hg⟩) (fun i hi=>h i.1.1 i.1.2 i.2.1 i.2.2 hi.1.1 hi.1.2 hi.2)
end
def addR (C:Cf) (P:List PA) (d:ByteArray):Rs3:=
 match dec d.data.toList with
 | none=>failP P 2
 | some t=>
  if (placeV (getP P t.s).1 (getP P t.s).2.1 C.per (getP P t.s).2.2 t C.bp).2=0 then
   (if C.hd<slotsP P+(placeV (getP P t.s).1 (getP P t.s).2.1 C.per (getP P t.s).2.2 t C.bp).1 then failP P 6
   else (setP P ((getP P t.s).1,(getP P t.s).2.1,putV t (getP P t.s).2.2),⟨0,tx0,[],0⟩,[(if (findV (getP P t.s).2.2 t.n).2=true then 2 else 1,t)]))
  else failP P (placeV (getP P t.s).1 (getP P t.s).2.1 C.per (getP P t.s).2.2 t C.bp).2
theorem addR_some {C:Cf} {P:List PA} {d:ByteArray} {t:Tx} (h:dec d.data.toList=some t):addR C P d=if (placeV (getP P t.s).1 (getP P t.s).2.1 C.per (getP P t.s).2.2 t C.bp).2=0 then
   (if C.hd<slotsP P+(placeV (getP P t.s).1 (getP P t.s).2.1 C.per (getP P t.s).2.2 t C.bp).1 then failP P 6
   else (setP P ((getP P t.s).1,(getP P t.s).2.1,putV t (getP P t.s).2.2),⟨0,tx0,[],0⟩,[(if (findV (getP P t.s).2.2 t.n).2=true then 2 else 1,t)]))
  else failP P (placeV (getP P t.s).1 (getP P t.s).2.1 C.per (getP P t.s).2.2 t C.bp).2:=by unfold addR;rw [h]
def advR (P:List PA) (s y:Int):Rs3:=
 if inB s 0 255=true then
  (if advV (getP P s).2.1 y=0 then (setP P ((getP P s).1,y,above y (getP P s).2.2),⟨0,tx0,below y (getP P s).2.2,0⟩,evL 3 (below y (getP P s).2.2))
  else failP P (advV (getP P s).2.1 y))
 else failP P 1
end Go.Proofs.YtfhgkkcpkcjbmaaGreatDoor.pool
namespace Go.Proofs.YtfhgkkcpkcjbmaaGreatDoor.pool
open Go.RowKit Sx txn queue greedy shard
def goodB (per:Int) (x:PA):Bool:=checkV x.1 x.2.1 per x.2.2 && !emptyV x.2.1 x.2.2.length
abbrev Ord (P:List PA):Prop:=P.Pairwise (fun x y=>x.1<y.1)
theorem shOk_iff {P:List PA} {per:Int}:shOk P 0 1 per=true↔(∀x∈P,goodB per x=true)∧Ord P:=by
 unfold shOk
 rw [List.all_eq_true]
 constructor
 ·intro h
  have H:∀i x,P[i]?=some x→goodB per x=true∧∀j y,i=j+1→P[j]?=some y→y.1<x.1:=by
   intro i x hx
   have hi:i<P.length:=(List.getElem?_eq_some_iff.1 hx).1
   have:=h i (List.mem_range.2 hi)
   cases i with
   | zero=>rw [okI_zero1 hx] at this;exact ⟨this,fun j y e=>by cases e⟩
   | succ j=>
    have hj:j<P.length:=by omega
    rw [okI_succ1 hx (List.getElem?_eq_getElem hj),Bool.and_assoc,Bool.and_eq_true,decide_eq_true_eq] at this
    exact ⟨this.2,fun j' y' e hy'=>by cases e;rw [List.getElem?_eq_getElem hj] at hy';cases hy';exact this.1⟩
  refine ⟨fun x hx=>?_,?_⟩
  ·obtain ⟨i,hi⟩:=List.mem_iff_getElem?.1 hx
   exact (H i x hi).1
  ·unfold Ord
   rw [List.pairwise_iff_getElem]
   intro i j hi hj hij
   induction j with
   | zero=>omega
   | succ j ih=>
    have h1:=(H (j+1) P[j+1] (List.getElem?_eq_getElem hj)).2 j P[j] rfl (List.getElem?_eq_getElem (by omega))
    by_cases e:i=j
    ·subst e;exact h1
    ·exact Int.lt_trans (ih (by omega) (by omega)) h1
 ·rintro ⟨h1,h2⟩ i hi
  rw [List.mem_range] at hi
  unfold Ord at h2
  rw [List.pairwise_iff_getElem] at h2
  cases i with
  | zero=>rw [okI_zero1 (List.getElem?_eq_getElem hi)];exact h1 _ (List.getElem_mem hi)
  | succ j=>
   have hj:j<P.length:=by omega
   rw [okI_succ1 (List.getElem?_eq_getElem hi) (List.getElem?_eq_getElem hj),Bool.and_assoc,decide_eq_true (h2 j (j+1) hj hi (by omega)),Bool.true_and]
   exact h1 _ (List.getElem_mem hi)
theorem pck_iff {C:Cf} {P:List PA}:pckB C P=true↔cfgB C=true∧(∀x∈P,goodB C.per x=true)∧Ord P∧slotsP P≤C.hd:=by
 unfold pckB shCheck
 simp only [Int.le_refl,decide_true,Bool.true_and,show (0:Int)≤1099511627776 from by decide,Bool.and_eq_true,decide_eq_true_eq,shOk_iff,and_assoc]
theorem good_iff {per:Int} {x:PA}:goodB per x=true↔(0≤x.1∧x.1≤255∧0≤x.2.1∧x.2.1≤4294967295∧1≤per∧per≤16∧(x.2.2.length:Int)≤per∧risesV x.1 x.2.1 x.2.2=true)∧emptyV x.2.1 x.2.2.length=false:=by
 unfold goodB checkV
 simp only [Bool.and_eq_true,inB_iff,decide_eq_true_eq,Bool.not_eq_true',and_assoc]
theorem ofK_in {P:List PA} (hp:Ord P) {x:PA} (hx:x∈P):ofK (fun y:PA=>y.1) x.1 P=[x]:=by
 induction P with
 | nil=>cases hx
 | cons y r ih=>
  unfold Ord at hp ih
  rw [List.pairwise_cons] at hp
  unfold ofK at *
  rcases List.mem_cons.1 hx with rfl | hx
  ·rw [List.filter_cons_of_pos (by simp)]
   rw [List.filter_eq_nil_iff.2 (fun z hz=>by have:=hp.1 z hz;simp;omega)]
  ·have:=hp.1 x hx
   rw [List.filter_cons_of_neg (by simp;omega)]
   exact ih hp.2 hx
theorem getP_in {P:List PA} (hp:Ord P) {x:PA} (hx:x∈P):getP P x.1=x:=by unfold getP;rw [ofK_in hp hx]
theorem getP_no {P:List PA} {s:Int} (h:∀x∈P,x.1≠s):getP P s=(s,0,[]):=by
 unfold getP
 rw [ofK_none (f:=fun y:PA=>y.1) h]
theorem getP_or (P:List PA) (s:Int):(getP P s∈P∧(getP P s).1=s)∨(getP P s=(s,0,[])∧∀x∈P,x.1≠s):=by
 unfold getP
 cases h:ofK (fun x:PA=>x.1) s P with
 | nil=>
  refine .inr ⟨rfl,fun x hx e=>?_⟩
  unfold ofK at h
  rw [List.filter_eq_nil_iff] at h
  exact h x hx (by simpa using e)
 | cons x r=>
  have hx:x∈ofK (fun x:PA=>x.1) s P:=by rw [h];exact .head _
  unfold ofK at hx
  rw [List.mem_filter] at hx
  exact .inl ⟨hx.1,by simpa using hx.2⟩
theorem getP_s (P:List PA) (s:Int):(getP P s).1=s:=(getP_or P s).elim (·.2) (fun h=>by rw [h.1])
theorem find_self {s b:Int} {t:Tx}:∀{l:List Tx} {b:Int},risesV s b l=true→t∈l→findV l t.n=(t,true)
 | [],_,_,h=>by cases h
 | x::l,b,hr,h=>by
  obtain ⟨r1,r2,r3,r4⟩:=rises_cons hr
  rw [findV_cons]
  rcases List.mem_cons.1 h with rfl | h
  ·rw [if_pos rfl]
  ·have:=(rises_all r4 t h).2.2
   rw [if_neg (by omega)]
   exact find_self (s:=s) (b:=b) r4 h
end Go.Proofs.YtfhgkkcpkcjbmaaGreatDoor.pool
namespace Go.Proofs.YtfhgkkcpkcjbmaaGreatDoor.pool
open Go.RowKit Sx txn queue greedy shard
def waysM (v:Value):List (Int×Value):=[(0,.func (.func 108) #[v] #[]),(1,.func (.func 109) #[v] #[]),(2,.func (.func 110) #[v] #[]),(3,.func (.func 111) #[v] #[]),(4,.func (.func 112) #[v] #[]),(5,.func (.func 113) #[v] #[]),(6,.func (.func 114) #[v] #[])]
theorem ways (C:Cf) (O:Oq) (a:Option Addr) (n c:Nat) (w:World) :
  Calls Tryz.prog 56 (List.toArray [askV C a n c O]) w fun e w'=>∃g:Nat,Gives w w' e (.map (some g)) [mapF g (waysM (askV C a n c O))]:=by
 refine calls_of_exec Sxs.env_ok.keeps Tryz.func56 rfl [] (schedQ_ok _ _ (by kernel_rfl)) [] (by simp) ?_
 conv=>arg 5;whnf
 refine op_makeMap rfl (fun g hg=>?_)
 conv=>arg 5;whnf
 refine op_insert (g:=g) (l:=(waysM (askV C a n c O)).take 0) (x:=0) (v:=.func (.func 108) #[askV C a n c O] #[]) [mapF g ((waysM (askV C a n c O)).take 1)] rfl rfl rfl rfl Tryz.underlying131 Tryz.underlying3 (.head _) (.inl hg) (fun ψ hψ=>by simp only [List.mem_singleton] at hψ;exact .inr hψ) ?_
 conv=>arg 5;whnf
 refine op_insert (g:=g) (l:=(waysM (askV C a n c O)).take 1) (x:=1) (v:=.func (.func 109) #[askV C a n c O] #[]) [mapF g ((waysM (askV C a n c O)).take 2)] rfl rfl rfl rfl Tryz.underlying131 Tryz.underlying3 (.head _) (.inl hg) (fun ψ hψ=>by simp only [List.mem_singleton] at hψ;exact .inr hψ) ?_
 conv=>arg 5;whnf
 refine op_insert (g:=g) (l:=(waysM (askV C a n c O)).take 2) (x:=2) (v:=.func (.func 110) #[askV C a n c O] #[]) [mapF g ((waysM (askV C a n c O)).take 3)] rfl rfl rfl rfl Tryz.underlying131 Tryz.underlying3 (.head _) (.inl hg) (fun ψ hψ=>by simp only [List.mem_singleton] at hψ;exact .inr hψ) ?_
 conv=>arg 5;whnf
 refine op_insert (g:=g) (l:=(waysM (askV C a n c O)).take 3) (x:=3) (v:=.func (.func 111) #[askV C a n c O] #[]) [mapF g ((waysM (askV C a n c O)).take 4)] rfl rfl rfl rfl Tryz.underlying131 Tryz.underlying3 (.head _) (.inl hg) (fun ψ hψ=>by simp only [List.mem_singleton] at hψ;exact .inr hψ) ?_
 conv=>arg 5;whnf
 refine op_insert (g:=g) (l:=(waysM (askV C a n c O)).take 4) (x:=4) (v:=.func (.func 112) #[askV C a n c O] #[]) [mapF g ((waysM (askV C a n c O)).take 5)] rfl rfl rfl rfl Tryz.underlying131 Tryz.underlying3 (.head _) (.inl hg) (fun ψ hψ=>by simp only [List.mem_singleton] at hψ;exact .inr hψ) ?_
 conv=>arg 5;whnf
 refine op_insert (g:=g) (l:=(waysM (askV C a n c O)).take 5) (x:=5) (v:=.func (.func 113) #[askV C a n c O] #[]) [mapF g ((waysM (askV C a n c O)).take 6)] rfl rfl rfl rfl Tryz.underlying131 Tryz.underlying3 (.head _) (.inl hg) (fun ψ hψ=>by simp only [List.mem_singleton] at hψ;exact .inr hψ) ?_
 conv=>arg 5;whnf
 refine op_insert (g:=g) (l:=(waysM (askV C a n c O)).take 6) (x:=6) (v:=.func (.func 114) #[askV C a n c O] #[]) [mapF g ((waysM (askV C a n c O)).take 7)] rfl rfl rfl rfl Tryz.underlying131 Tryz.underlying3 (.head _) (.inl hg) (fun ψ hψ=>by simp only [List.mem_singleton] at hψ;exact .inr hψ) ?_
 conv=>arg 5;whnf
 exact wp_back fun β ρ w' hM'=>⟨g,rfl,hM'.below,fun φ hφ g' hg'=>by simp only [List.mem_singleton] at hφ;subst hφ;cases hg';exact ⟨hg,(hM'.fact _ (.head _) g rfl).2⟩⟩
theorem meetWays {W:World} {G:Option Nat} {Q:Ending→World→Prop} {ds:List Deferred} {args:List Sx.T} {m:M} {k:Value→List Fact→Tree} {C:Cf} {O:Oq} {a:Option Addr} {n c:Nat} (hv:valsOf args=some [askV C a n c O])
  (h:∀g,(k (.map (some g)) [mapF g (waysM (askV C a n c O))]).wpD Tryz.prog W G Q ds):(Tree.call 56 args m k).wpD Tryz.prog W G Q ds:=
 meetR (ι:=Nat) (ok:=fun _=>True) (v:=fun g=>.map (some g)) (fs:=fun g=>[mapF g (waysM (askV C a n c O))]) (by kernel_rfl) (fun β ρ w vs hm hr=>by
  rw [valsOf_spec _ _ _ hv hr]
  exact (ways C O a n c w).mono fun e w' ⟨g,hg⟩=>⟨g,trivial,hg⟩) (fun g _=>h g)
theorem opB_An {W:World} {G:Option Nat} {Q:Ending→World→Prop} {ds:List Deferred} {o:Oper} {m:M} {t:List Sx.T} {k:M→List Sx.T→Sx.T→Tree} {f:Operand} {g:FuncId} {first:Array Value} {args:Array Operand} {tys:Array TypeId} {l:List Value} {old:List Fact} {R:Rs3}
  (ho:o.op=.call ⟨.value f,args,tys⟩) (hf:ev t f=.v (.func (.func g) first #[])) (hv:valsOf (args.toList.map (ev t))=some l) (hc:callable Tryz.prog g=true) (hold:∀ψ∈old,ψ∈m.facts)
  (hC:∀β ρ w,Mem W G m β ρ w→Calls Tryz.prog g (first++List.toArray l) w fun e w'=>Ans w w' old e R)
  (h:∀x:An,x.ok R→(∀φ∈x.fs R,New W old φ)→(k { m with facts:=x.fs R++m.facts } t (.v (x.v R))).wpD Tryz.prog W G Q ds):(Tree.op none o m t k).wpD Tryz.prog W G Q ds:=
 op_callB ho hf hv hc fun β ρ w hm=>(hC β ρ w hm).mono fun e w' ⟨x,hx,he,hb,hfs⟩=>⟨x.v R,{ m with facts:=x.fs R++m.facts },he,(hm.grow hb).learn (x.fs R) (fun φ hφ g hg=>by
  obtain ⟨h1,h2⟩:=hfs φ hφ g hg
  exact ⟨(hm.apart (h1.elim (fun h=>.inr (.inl h)) fun ⟨ψ,h3,h4⟩=>.inr (.inr ⟨ψ,hold ψ h3,h4⟩))),h2⟩),h x hx (fun φ hφ g hg=>(hfs φ hφ g hg).1.elim (fun h=>.inl (Nat.le_trans hm.grown.size h)) .inr)⟩
def doR (C:Cf) (P:List PA) (wt:Tx) (tl:List Tx) (O:Oq):Rs3:=
 if pckB C P=true then
  (if O.k=0 then addR C P O.d else if O.k=1 then dropP P O.s O.v else if O.k=2 then advR P O.s O.v else if O.k=3 then getR P O.s O.v
  else if O.k=4 then (P,⟨0,tx0,[],slotsP P⟩,[]) else if O.k=5 then (P,⟨0,tx0,tl,0⟩,[]) else if O.k=6 then evictR C P wt else failP P 1)
 else failP P 1
end Go.Proofs.YtfhgkkcpkcjbmaaGreatDoor.pool
namespace Go.Proofs.YtfhgkkcpkcjbmaaGreatDoor.pool
open Go.RowKit Sx txn queue greedy shard
theorem worst_in {L:List Ac} (h:(worstV L).2=true):∃x∈L,(worstV L).1∈x.l:=by
 unfold worstV at h ⊢
 split at h
 ·rename_i h0
  rw [if_pos h0]
  refine lastsV_mem ?_
  have hlt:heap.worstTo (lastsV L) (lastsV L).length<(lastsV L).length:=by have:=heap.worstTo_lt (lastsV L) (lastsV L).length;omega
  exact List.mem_of_getElem? (nx_get hlt)
 ·cases h
theorem worst_no {L:List Ac} (h:(worstV L).2=false):slotsA L=0:=by
 unfold worstV at h
 split at h
 ·cases h
 ·rename_i h0
  have h1:lastsV L=[]:=List.eq_nil_of_length_eq_zero (by omega)
  clear h h0
  induction L with
  | nil=>rfl
  | cons x L ih=>
   have e:lastsV (x::L)=lastL x.l++lastsV L:=rfl
   rw [e] at h1
   obtain ⟨h2,h3⟩:=List.append_eq_nil_iff.1 h1
   have hx:x.l=[]:=by
    cases hl:x.l with
    | nil=>rfl
    | cons y r=>rw [lastL_pos (by rw [hl];simp)] at h2;cases h2
   have e2:slotsA (x::L)=slotsL x.l+slotsA L:=rfl
   rw [e2,ih h3,hx]
   rfl
end Go.Proofs.YtfhgkkcpkcjbmaaGreatDoor.pool
namespace Go.Proofs.YtfhgkkcpkcjbmaaGreatDoor.pool
open Go.RowKit Sx txn queue greedy shard
theorem setF_more {a:PA}:∀(L A B:List PA),L.Pairwise (fun x y=>x.1<y.1)→(B≠[]→∀x∈L,a.1<x.1)→L.foldl (setS a) (A,B)=(A++L.filter (fun x=>decide (x.1<a.1)),B++L.filter (fun x=>decide (a.1<x.1)))
 | [],A,B,_,_=>by simp
 | x::L,A,B,h,hB=>by
  rw [List.pairwise_cons] at h
  rw [List.foldl_cons]
  unfold setS
  by_cases h1:x.1=a.1
  ·rw [if_pos h1]
   refine (setF_more L A B h.2 fun hb y hy=>hB hb y (List.mem_cons_of_mem _ hy)).trans ?_
   have e1:decide (x.1<a.1)=false:=by simp;omega
   have e2:decide (a.1<x.1)=false:=by simp;omega
   rw [List.filter_cons_of_neg (by rw [e1];simp),List.filter_cons_of_neg (by rw [e2];simp)]
  ·rw [if_neg h1]
   by_cases h2:B≠[]∨a.1<x.1
   ·rw [if_pos h2]
    have h3:a.1<x.1:=h2.elim (fun hb=>hB hb x (List.mem_cons_self ..)) id
    refine (setF_more L A (B++[x]) h.2 fun _ y hy=>Int.lt_trans h3 (h.1 y hy)).trans ?_
    have e1:decide (x.1<a.1)=false:=by simp;omega
    have e2:decide (a.1<x.1)=true:=by simp;omega
    rw [List.filter_cons_of_neg (by rw [e1];simp),List.filter_cons_of_pos (by rw [e2]),List.append_assoc];rfl
   ·rw [if_neg h2]
    rw [not_or,Decidable.not_not] at h2
    refine (setF_more L (A++[x]) B h.2 fun hb=>absurd h2.1 hb).trans ?_
    have e1:decide (x.1<a.1)=true:=by have:=h2.2;simp;omega
    have e2:decide (a.1<x.1)=false:=by have:=h2.2;simp;omega
    rw [List.filter_cons_of_pos (by rw [e1]),List.filter_cons_of_neg (by rw [e2];simp),List.append_assoc];rfl
theorem setF_rise {L:List PA} (a:PA) (h:L.Pairwise (fun x y=>x.1<y.1)):setF L a=(L.filter (fun x=>decide (x.1<a.1)),L.filter (fun x=>decide (a.1<x.1))):=by
 have:=setF_more (a:=a) L [] [] h (fun h=>absurd rfl h)
 simpa [setF] using this
theorem setP_mem {L:List PA} (a:PA) (h:L.Pairwise (fun x y=>x.1<y.1)) (x:PA):x∈setP L a↔(x∈L∧x.1≠a.1)∨(x=a∧emptyV a.2.1 a.2.2.length=false):=by
 unfold setP
 rw [setF_rise a h]
 simp only [List.mem_append,List.mem_filter,decide_eq_true_eq]
 have hm:x∈(if emptyV a.2.1 a.2.2.length then [] else [a])↔x=a∧emptyV a.2.1 a.2.2.length=false:=by
  cases emptyV a.2.1 a.2.2.length <;> simp
 rw [hm]
 constructor
 ·rintro ((⟨h1,h2⟩ | h1) | ⟨h1,h2⟩)
  ·exact .inl ⟨h1,by omega⟩
  ·exact .inr h1
  ·exact .inl ⟨h1,by omega⟩
 ·rintro (⟨h1,h2⟩ | h1)
  ·by_cases h3:x.1<a.1
   ·exact .inl (.inl ⟨h1,h3⟩)
   ·exact .inr ⟨h1,by omega⟩
  ·exact .inl (.inr h1)
theorem setP_rise {L:List PA} (a:PA) (h:L.Pairwise (fun x y=>x.1<y.1)):(setP L a).Pairwise (fun x y=>x.1<y.1):=by
 unfold setP
 rw [setF_rise a h]
 have hm:∀x,x∈(if emptyV a.2.1 a.2.2.length then [] else [a])→x=a:=by intro x;cases emptyV a.2.1 a.2.2.length <;> simp
 have hp:(if emptyV a.2.1 a.2.2.length then ([]:List PA) else [a]).Pairwise (fun x y=>x.1<y.1):=by cases emptyV a.2.1 a.2.2.length <;> simp
 refine List.pairwise_append.2 ⟨List.pairwise_append.2 ⟨h.sublist List.filter_sublist,hp,fun x hx y hy=>?_⟩,h.sublist List.filter_sublist,fun x hx y hy=>?_⟩
 ·have:=hm y hy;subst this
  simpa using (List.mem_filter.1 hx).2
 ·have h2:a.1<y.1:=by simpa using (List.mem_filter.1 hy).2
  rcases List.mem_append.1 hx with hx | hx
  ·have h1:x.1<a.1:=by simpa using (List.mem_filter.1 hx).2
   omega
  ·have:=hm x hx;subst this;exact h2
theorem setP_le (L:List PA) (a:PA):(setP L a).length≤L.length+1:=by
 unfold setP setF
 have:∀(L A B:List PA),((L.foldl (setS a) (A,B)).1).length+((L.foldl (setS a) (A,B)).2).length≤A.length+B.length+L.length:=by
  intro L
  induction L with
  | nil=>intro A B;simp
  | cons x L ih=>
   intro A B
   rw [List.foldl_cons]
   unfold setS
   by_cases h1:x.1=a.1
   ·rw [if_pos h1];have:=ih A B;unfold setS at this;rw [List.length_cons];omega
   ·rw [if_neg h1]
    by_cases h2:B≠[]∨a.1<x.1
    ·rw [if_pos h2];have:=ih A (B++[x]);unfold setS at this;rw [List.length_append] at this;rw [List.length_cons];simp at this ⊢;omega
    ·rw [if_neg h2];have:=ih (A++[x]) B;unfold setS at this;rw [List.length_append] at this;rw [List.length_cons];simp at this ⊢;omega
 have h1:=this L [] []
 have h2:(if emptyV a.2.1 a.2.2.length then ([]:List PA) else [a]).length≤1:=by cases emptyV a.2.1 a.2.2.length <;> simp
 rw [List.length_append,List.length_append]
 simp only [List.length_nil] at h1
 omega
theorem slots_three (P:List PA) (k:Int):slotsP P=slotsP (P.filter fun x=>decide (x.1<k))+slotsP (ofK (fun x:PA=>x.1) k P)+slotsP (P.filter fun x=>decide (k<x.1)):=by
 induction P with
 | nil=>rfl
 | cons x P ih=>
  have e:slotsP (x::P)=slotsL x.2.2+slotsP P:=rfl
  have e1:∀Y:List PA,slotsP (x::Y)=slotsL x.2.2+slotsP Y:=fun _=>rfl
  unfold ofK at *
  rw [e,ih]
  by_cases h1:x.1<k
  ·rw [List.filter_cons_of_pos (by simpa using h1),List.filter_cons_of_neg (by simp;omega),List.filter_cons_of_neg (by simp;omega),e1];omega
  ·by_cases h2:x.1=k
   ·rw [List.filter_cons_of_neg (by simpa using h1),List.filter_cons_of_pos (by simpa using h2),List.filter_cons_of_neg (by simp;omega),e1];omega
   ·rw [List.filter_cons_of_neg (by simpa using h1),List.filter_cons_of_neg (by simpa using h2),List.filter_cons_of_pos (by simp;omega),e1];omega
theorem slots_of {P:List PA} (hp:Ord P) (k:Int):slotsP (ofK (fun x:PA=>x.1) k P)=slotsL (getP P k).2.2:=by
 rcases getP_or P k with ⟨h1,h2⟩ | ⟨h1,h2⟩
 ·have:=ofK_in hp h1
  rw [h2] at this
  rw [this]
  show slotsL (getP P k).2.2+0=_
  omega
 ·rw [h1,ofK_none (f:=fun y:PA=>y.1) h2]
  rfl
theorem slotsP_app (X Y:List PA):slotsP (X++Y)=slotsP X+slotsP Y:=by simp [slotsP]
theorem slots_set {P:List PA} (hp:Ord P) (a:PA):slotsP (setP P a)=slotsP P - slotsL (getP P a.1).2.2+slotsL a.2.2:=by
 have h1:=slots_three P a.1
 rw [slots_of hp] at h1
 unfold setP
 rw [setF_rise a hp,slotsP_app,slotsP_app]
 simp only []
 cases he:emptyV a.2.1 a.2.2.length with
 | true=>
  have:a.2.2=[]:=by unfold emptyV at he;simp only [Bool.and_eq_true,decide_eq_true_eq] at he;exact List.eq_nil_of_length_eq_zero he.2
  rw [this]
  have e:slotsP (if true=true then ([]:List PA) else [a])=0:=rfl
  have e2:slotsL []=0:=rfl
  rw [e,e2]
  omega
 | false=>
  have e:slotsP (if false=true then ([]:List PA) else [a])=slotsL a.2.2+0:=rfl
  rw [e]
  omega
theorem slotsL_pos (l:List Tx):0≤slotsL l:=(slotsL_bd l).1
theorem drop_less (v:Int) (l:List Tx):slotsL (dropV v l)≤slotsL l:=by
 have:=slots_split (fun x=>x.n != v) l
 have h2:=slotsL_pos (l.filter fun x=>!(x.n != v))
 unfold dropV
 omega
theorem above_less (v:Int) (l:List Tx):slotsL (above v l)≤slotsL l:=by
 have:=slots_advance v l
 have h2:=slotsL_pos (below v l)
 omega
end Go.Proofs.YtfhgkkcpkcjbmaaGreatDoor.pool
namespace Go.Proofs.YtfhgkkcpkcjbmaaGreatDoor.pool
open Go.RowKit Sx txn queue greedy shard
theorem ev_neq (x y:Operand) (q:Ev) (w:World):(do eqGuard .neq 122 x y (.agg (evC q).toArray) (.agg (evC q).toArray);pure (Next.value (← binOp .neq 122 (.agg (evC q).toArray) (.agg (evC q).toArray))):Sem Next).run Tryz.prog w=.ok (.value (.bool false)) w:=by
 simp [evC,eqGuard,go_sem]
theorem cellsE_at:∀{l:List Ev} {k:Nat} {x:Ev},l[k]?=some x→∀(j:Nat) (u:Value),(evC x)[j]?=some u→(cellsE l)[k*8+j]?=some u
 | [],k,x,h=>by cases h
 | y::l,0,x,h=>by
  cases h
  intro j u hu
  have hj:j<(evC y).length:=(List.getElem?_eq_some_iff.1 hu).1
  show ((evC y)++cellsE l)[0*8+j]?=some u
  rw [show 0*8+j=j by omega,List.getElem?_append_left hj]
  exact hu
 | y::l,k+1,x,h=>by
  intro j u hu
  have:=cellsE_at (l:=l) (k:=k) (x:=x) h j u hu
  show ((evC y)++cellsE l)[(k+1)*8+j]?=some u
  have hl:(evC y).length=8:=rfl
  rw [List.getElem?_append_right (by omega),hl,show (k+1)*8+j - 8=k*8+j by omega]
  exact this
theorem revents (l:List Ev) (a:Option Addr) (c:Nat) (a2:Option Addr) (c2:Nat) (w:World) (hs:Sl a l.length c) (hrow:At w (pt a l.length) (cellsE l)) (hs2:Sl a2 l.length c2) (hrow2:At w (pt a2 l.length) (cellsE l)) :
  Calls Tryz.prog 24 (List.toArray [.slice a l.length c,.slice a2 l.length c2]) w fun e w'=>e=.returned (.bool true)∧Below w.heap.size w w':=by
 have hn63:=hs.le
 refine calls_of_exec Sxs.env_ok.keeps Tryz.func24 rfl [(6,(line [0,1,2,3,4,5,6,7,8],[]))] (schedQ_ok _ _ (by kernel_rfl)) [rowF (pt a l.length) (cellsE l),rowF (pt a2 l.length) (cellsE l)] (fun φ hφ g hg=>by simp only [List.mem_cons,List.not_mem_nil,or_false] at hφ;rcases hφ with rfl | rfl <;> first | exact hrow g hg | exact hrow2 g hg) ?_
 conv=>arg 5;whnf
 refine wp_br (fun h=>absurd h (by simp)) (fun h=>?_)
 conv=>arg 5;whnf
 refine loop_rule Sxs.env_ok.keeps [(6,(line [0,1,2,3,4,5,6,7,8],[]))] (schedQ_ok _ _ (by kernel_rfl)) (fun k:Nat=>k≤l.length) (fun k=>(⟨[],[],[rowF (pt a l.length) (cellsE l),rowF (pt a2 l.length) (cellsE l)]⟩,[.v (.slice a l.length c),.v (.slice a2 l.length c2),.any,.any,.any,.v (.int .i64 k),.any,.any,.any,.any,.any,.any,.any,.any,.any,.any,.any,.any,.any,.any,.any,.any,.any,.any,.any,.any])) (fun k=>l.length - k) 0 (Nat.zero_le _) ⟨by repeat' first | exact trivial | refine ⟨.inl rfl,?_⟩ | refine ⟨.inr rfl,?_⟩,⟨by repeat' first | exact trivial | refine ⟨.inl rfl,?_⟩ | refine ⟨.inr rfl,?_⟩,by repeat' first | exact trivial | refine ⟨.inl rfl,?_⟩ | refine ⟨.inr rfl,?_⟩,fun _ h=>h⟩,rfl⟩ ?_
 intro k hk
 conv=>arg 5;whnf
 refine wp_br (fun h1=>?_) (fun h1=>?_)
 ·have hlt:k<l.length:=by have h3:=of_decide_eq_true (show decide ((k:Int)<(l.length:Int))=true from h1);omega
  obtain ⟨x,hx⟩:∃x,l[k]?=some x:=⟨_,List.getElem?_eq_getElem (by omega)⟩
  conv=>arg 5;whnf
  refine wp_must ⟨by omega,by show (k:Int)<(l.length:Int);omega,hs.some hlt⟩ ?_
  conv=>arg 5;whnf
  refine readG Sxs.env_ok (vs:=evC x) (sz:=8) (k:=k) rfl rfl (.head _) hlt (hs.some hlt) (cellsE_at hx) rfl ?_
  conv=>arg 5;whnf
  refine wp_must ⟨by omega,by show (k:Int)<(l.length:Int);omega,hs2.some hlt⟩ ?_
  conv=>arg 5;whnf
  refine readG Sxs.env_ok (vs:=evC x) (sz:=8) (k:=k) rfl rfl (by exact .tail _ (.head _)) hlt (hs2.some hlt) (cellsE_at hx) rfl ?_
  conv=>arg 5;whnf
  refine wp_prim (.bool false) (fun w=>ev_neq _ _ x w) ?_
  conv=>arg 5;whnf
  refine wp_must ⟨by show -9223372036854775808≤(k:Int)+1;omega,by show (k:Int)+1≤9223372036854775807;omega⟩ ?_
  conv=>arg 5;whnf
  refine wp_end ⟨k+1,hlt,⟨by repeat' first | exact trivial | refine ⟨.inl rfl,?_⟩ | refine ⟨.inr rfl,?_⟩,⟨by repeat' first | exact trivial | refine ⟨.inl rfl,?_⟩ | refine ⟨.inr rfl,?_⟩,by repeat' first | exact trivial | refine ⟨.inl rfl,?_⟩ | refine ⟨.inr rfl,?_⟩,fun _ h=>h⟩,rfl⟩,by show l.length - (k+1)<l.length - k;omega⟩
 ·skip
  conv=>arg 5;whnf
  exact wp_back fun β ρ w' hM'=>⟨rfl,hM'.below⟩
theorem rsameR (r:Rq) (ta:Option Addr) (tc:Nat) (tb:Option Addr) (td:Nat) (w:World) (hs:Sl ta r.l.length tc) (hrow:At w (pt ta r.l.length) (cellsL r.l)) (hs2:Sl tb r.l.length td) (hrow2:At w (pt tb r.l.length) (cellsL r.l)) :
  Calls Tryz.prog 46 (List.toArray [resV r ta tc,resV r tb td]) w fun e w'=>e=.returned (.bool true)∧Below w.heap.size w w':=by
 have TX:=fun w hr hr2=>rtxs r.l ta r.l.length tc tb td w hs rfl hr hs2 hr2
 refine calls_of_exec Sxs.env_ok.keeps Tryz.func46 rfl [] (schedQ_ok _ _ (by kernel_rfl)) [rowF (pt ta r.l.length) (cellsL r.l),rowF (pt tb r.l.length) (cellsL r.l)] (fun φ hφ g hg=>by simp only [List.mem_cons,List.not_mem_nil,or_false] at hφ;rcases hφ with rfl | rfl <;> first | exact hrow g hg | exact hrow2 g hg) ?_
 conv=>arg 5;whnf
 refine wp_g1 (fun _=>?_) (fun h=>by simp at h)
 conv=>arg 5;whnf
 refine wp_prim (.bool true) (fun w=>eq_same' _ _ r.t w) ?_
 conv=>arg 5;whnf
 refine wp_g1 (fun _=>?_) (fun h=>by simp at h)
 conv=>arg 5;whnf
 refine meetc (f:=92) (v:=.bool true) rfl (by kernel_rfl) (fun β ρ w' hM'=>TX w' (hM'.at_ (.head _)) (hM'.at_ (.tail _ (.head _)))) ?_
 conv=>arg 5;whnf
 exact wp_back fun β ρ w' hM'=>⟨rfl,hM'.below⟩
def toA (p:PA):Ac:=⟨p.1,p.2.1,none,p.2.2.length,0,p.2.2⟩
def tplP (P:List PA) (g:Int):List Tx:=templateV (P.map toA) g
def worP (P:List PA):Tx:=(worstV (P.map toA)).1
theorem wor_P (L:List Ac):(worstV L).1=worP (L.map acP):=by
 unfold worP worstV lastsV
 rw [List.map_map,List.map_map]
 rfl
def doP (C:Cf) (P:List PA) (O:Oq):Rs3:=doR C P (worP P) (tplP P O.g) O
end Go.Proofs.YtfhgkkcpkcjbmaaGreatDoor.pool
namespace Go.Proofs.YtfhgkkcpkcjbmaaGreatDoor.pool
open Go.RowKit Sx txn queue greedy shard
def Oq.cs (O:Oq):List Value:=[.int .i64 O.k,.int .i64 O.s,.int .i64 O.v,.int .i64 O.g,.string O.d]
end Go.Proofs.YtfhgkkcpkcjbmaaGreatDoor.pool
namespace Go.Proofs.YtfhgkkcpkcjbmaaGreatDoor.pool
open Go.RowKit Sx txn queue greedy shard
abbrev T1:Tx:=⟨1,0,5,9,10,ByteArray.empty⟩
abbrev T2:Tx:=⟨2,0,4,9,10,ByteArray.empty⟩
def bz (x:Tx):ByteArray:=⟨(encV x).toArray⟩
abbrev A1:PA:=(1,0,[T1])
abbrev A2:PA:=(2,0,[T2])
end Go.Proofs.YtfhgkkcpkcjbmaaGreatDoor.pool
namespace Go.Proofs.YtfhgkkcpkcjbmaaGreatDoor.pool
open Go.RowKit Sx txn queue greedy shard
theorem enc_ (x:Tx) (hok:x.ok=true) (w:World) (hd:x.d.size≤maxLen):Calls Tryz.prog 51 (List.toArray [x.val]) w fun e w'=>e=.returned (.tuple #[.string (bz x),.bool true])∧Below w.heap.size w w':=by
 have:=rencode x w hd
 rw [hok] at this
 exact this
end Go.Proofs.YtfhgkkcpkcjbmaaGreatDoor.pool
namespace Go.Proofs.YtfhgkkcpkcjbmaaGreatDoor.pool
open Go.RowKit Go.ChangeShapes Go.WideShapes Sx txn queue greedy shard
theorem typed_cfg:Typed Tryz.prog 23 (.flat [.int,.int,.int,.int,.int,.int,.int,.int]):=.struct Tryz.underlying23 (.cons rfl typed_int (.cons rfl typed_int (.cons rfl typed_int (.cons rfl typed_int (.cons rfl typed_int (.cons rfl typed_int (.cons rfl typed_int (.cons rfl typed_int (.nil))))))))) (by kernel_rfl)
end Go.Proofs.YtfhgkkcpkcjbmaaGreatDoor.pool
