/- Layer 13 (pool): what callees lay; Clone of accounts, within, the two Config. -/
import Derived.Test.YtfhgkkcpkcjbmaaGreatDoorKShAll
import Derived.Test.YtfhgkkcpkcjbmaaGreatDoorKQueTop
import Derived.Test.YtfhgkkcpkcjbmaaGreatDoorKTxnTop
import Derived.Test.YtfhgkkcpkcjbmaaGreatDoorKTxnREnc
import Derived.Test.YtfhgkkcpkcjbmaaGreatDoorKShP
set_option linter.all false
set_option maxHeartbeats 4000000
set_option maxRecDepth 100000
namespace Go.Proofs.YtfhgkkcpkcjbmaaGreatDoor.pool
open Go.RowKit Sx txn queue greedy shard
section
variable {P : Program} {W : World} {G : Option Nat} {Q : Ending → World → Prop} {ds : List Deferred}
def Lay (w w':World) (old:List Fact) (e:Ending) (v:Value) (fs:List Fact):Prop:=e=.returned v∧Below w.heap.size w w'∧∀φ∈fs,∀g,φ.g=some g→(w.heap.size≤g∨∃ψ∈old,ψ.g=some g)∧∃o,w'.heap[g]?=some o∧φ.holds o
theorem Lay.more {w w':World} {old old':List Fact} {e v fs} (h:Lay w w' old e v fs) (k:∀ψ∈old,∀g,ψ.g=some g→∃ψ'∈old',ψ'.g=some g):Lay w w' old' e v fs:=⟨h.1,h.2.1,fun φ hφ g hg=>⟨(h.2.2 φ hφ g hg).1.elim .inl fun ⟨ψ,h1,h2⟩=>.inr (k ψ h1 g h2),(h.2.2 φ hφ g hg).2⟩⟩
def New (W:World) (old:List Fact) (φ:Fact):Prop:=∀g,φ.g=some g→W.heap.size≤g∨∃ψ∈old,ψ.g=some g
theorem meetLy {ι:Type} {ok:ι→Prop} {v:ι→Value} {fs:ι→List Fact} {f:FuncId} {args:List Sx.T} {l:List Value} {m:M} {k:Value→List Fact→Tree} (old:List Fact) (hold:∀ψ∈old,ψ∈m.facts) (hv:valsOf args=some l) (hc:callable P f=true)
  (hC:∀β ρ w,Mem W G m β ρ w→Calls P f (List.toArray l) w fun e w'=>∃i,ok i∧Lay w w' old e (v i) (fs i)) (h:∀i,ok i→(∀φ∈fs i,New W old φ)→(k (v i) (fs i)).wpD P W G Q ds):(Tree.call f args m k).wpD P W G Q ds:=
 ⟨hc,fun β ρ w vs hm hr=>by
  rw [valsOf_spec _ _ _ hv hr]
  refine (hC β ρ w hm).mono fun e w' ⟨i,hi,he,hb,hg⟩=>⟨v i,fs i,he,hb,fun φ hφ g hφg=>?_,h i hi fun φ hφ g hg'=>(hg φ hφ g hg').1.elim (fun h=>.inl (Nat.le_trans hm.grown.size h)) .inr⟩
  obtain ⟨h1,h2⟩:=hg φ hφ g hφg
  exact ⟨h1.elim (fun h=>.inr (.inl h)) (fun ⟨ψ,h3,h4⟩=>.inr (.inr ⟨ψ,hold ψ h3,h4⟩)),h2⟩⟩
end
theorem cloneA (L:List Ac) (a:Option Addr) (n c:Nat) (w:World) (hs:Sl a n c) (hn:n=L.length) (hrow:At w (pt a n) (cellsA L)) (hl:L.length≤1000000) :
  Calls Tryz.prog 121 (List.toArray [.slice a n c]) w fun e w'=>∃v,e=.returned v∧Below w.heap.size w w'∧w'.ownsRow w.heap.size 47 3 v n (cellsA L):=by
 refine calls_of_row (Env.Ok.howD Sxs.env_ok [(121,.fresh 47 3)]) Tryz.func121 rfl [] (by kernel_rfl) (n:=2) rfl [.v (.slice a n c)] ⟨[],[],[rowF (pt a n) (cellsA L)]⟩ [] (mem_plain _ (at1 hrow)) (Rels.vals [.slice a n c]) ?_
 refine wp_prim (.bool a.isNone) (fun w=>by simp [eqGuard,Lib.run_eql_slice_nil w _ _ a n c 0 0 Tryz.underlying32]) ?_
 refine wp_br (fun h1=>?_) (fun h1=>?_)
 ·cases a with
  | some _=>cases h1
  | none=>
   have h0:=(hs.2.2 rfl).1
   exact wp_back fun β ρ w' hM'=>⟨_,rfl,hM'.below,by
    have hl0:L=[]:=List.eq_nil_of_length_eq_zero (by omega)
    subst hl0
    exact ⟨by simp [cellsA,h0],.inl ⟨rfl,h0⟩⟩⟩
 ·refine ⟨cellsA L,by rw [cellsA_length,hn],cellsA_one L,fun β ρ w' hM' ad had j u hu=>?_,?_⟩
  ·subst had
   have h1:=hM'.at_ List.mem_cons_self
   rw [pt_pos (k:=0) (by have:=cellsA_pos hu;omega)] at h1
   exact h1.cell hu
  ·refine wp_must ⟨by show 0+n≤maxLen;unfold maxLen;omega,by show (0+n)*40≤140737488355328;omega,fun ha=>hs.2.2 ha⟩ ?_
   refine wp_end (fun β ρ w' v hM' hv=>⟨v,rfl,hM'.below,?_⟩)
   have:=hM'.mine (i:=0) (r:=⟨47,3,0+n,[]++cellsA L⟩) rfl hv
   simpa using this
structure Cf where
 sh:Int
 so:Int
 hd:Int
 per:Int
 bp:Int
 fd:Int
 wk:Int
 rm:Int
def Cf.val (C:Cf):Value:=.agg #[.int .i64 C.sh,.int .i64 C.so,.int .i64 C.hd,.int .i64 C.per,.int .i64 C.bp,.int .i64 C.fd,.int .i64 C.wk,.int .i64 C.rm]
def cfgB (C:Cf):Bool:=decide (1≤C.sh∧C.sh≤8∧1≤C.hd∧C.hd≤1000∧0≤C.so∧C.so≤C.hd∧1≤C.per∧C.per≤16∧0≤C.bp∧C.bp≤100∧1≤C.fd∧C.fd≤16∧1≤C.wk∧C.wk≤4∧1≤C.rm∧C.rm≤8)
theorem inB_iff {n l m:Int}:inB n l m=true↔l≤n∧n≤m:=by unfold inB;rw [Bool.and_eq_true,decide_eq_true_eq,decide_eq_true_eq]
theorem inB_no {n l m:Int} (h:inB n l m=false):¬ (l≤n∧n≤m):=fun k=>by rw [inB_iff.2 k] at h;cases h
theorem within (n l m:Int) (w:World):Calls Tryz.prog 151 (List.toArray [.int .i64 n,.int .i64 l,.int .i64 m]) w fun e w'=>e=.returned (.bool (inB n l m))∧Below w.heap.size w w':=by
 refine calls_of_exec Sxs.env_ok.keeps Tryz.func151 rfl [] (schedQ_ok _ _ (by kernel_rfl)) [] (by simp) ?_
 conv=>arg 5;whnf
 refine wp_g1 (fun h1=>?_) (fun h1=>?_)
 ·have e:inB n l m=decide (n≤m):=by unfold inB;rw [h1,Bool.true_and]
  rw [e]
  conv=>arg 5;whnf
  exact wp_back fun β ρ w' hM'=>⟨rfl,hM'.below⟩
 ·have e:inB n l m=false:=by unfold inB;rw [h1,Bool.false_and]
  rw [e]
  conv=>arg 5;whnf
  exact wp_back fun β ρ w' hM'=>⟨rfl,hM'.below⟩
theorem config (C:Cf) (w:World):Calls Tryz.prog 96 (List.toArray [C.val]) w fun e w'=>e=.returned (.bool (cfgB C))∧Below w.heap.size w w':=by
 refine calls_of_exec Sxs.env_ok.keeps Tryz.func96 rfl [] (schedQ_ok _ _ (by kernel_rfl)) [] (by simp) ?_
 have W0:=within C.sh 1 8
 have W1:=within C.hd 1 1000
 have W2:=within C.so 0 C.hd
 have W3:=within C.per 1 16
 have W4:=within C.bp 0 100
 have W5:=within C.fd 1 16
 have W6:=within C.wk 1 4
 have W7:=within C.rm 1 8
 conv=>arg 5;whnf
 refine meetc (f:=151) (v:=.bool (inB C.sh 1 8)) rfl (by kernel_rfl) (fun β ρ w' hM'=>W0 w') ?_
 cases h0:inB C.sh 1 8 with
 | false=>
  have e:cfgB C=false:=decide_eq_false fun k=>inB_no h0 (by omega)
  rw [e]
  conv=>arg 5;whnf
  exact wp_back fun β ρ w' hM'=>⟨rfl,hM'.below⟩
 | true=>
  conv=>arg 5;whnf
  refine meetc (f:=151) (v:=.bool (inB C.hd 1 1000)) rfl (by kernel_rfl) (fun β ρ w' hM'=>W1 w') ?_
  cases h1:inB C.hd 1 1000 with
  | false=>
   have e:cfgB C=false:=decide_eq_false fun k=>inB_no h1 (by omega)
   rw [e]
   conv=>arg 5;whnf
   exact wp_back fun β ρ w' hM'=>⟨rfl,hM'.below⟩
  | true=>
   conv=>arg 5;whnf
   refine meetc (f:=151) (v:=.bool (inB C.so 0 C.hd)) rfl (by kernel_rfl) (fun β ρ w' hM'=>W2 w') ?_
   cases h2:inB C.so 0 C.hd with
   | false=>
    have e:cfgB C=false:=decide_eq_false fun k=>inB_no h2 (by omega)
    rw [e]
    conv=>arg 5;whnf
    exact wp_back fun β ρ w' hM'=>⟨rfl,hM'.below⟩
   | true=>
    conv=>arg 5;whnf
    refine meetc (f:=151) (v:=.bool (inB C.per 1 16)) rfl (by kernel_rfl) (fun β ρ w' hM'=>W3 w') ?_
    cases h3:inB C.per 1 16 with
    | false=>
     have e:cfgB C=false:=decide_eq_false fun k=>inB_no h3 (by omega)
     rw [e]
     conv=>arg 5;whnf
     exact wp_back fun β ρ w' hM'=>⟨rfl,hM'.below⟩
    | true=>
     conv=>arg 5;whnf
     refine meetc (f:=151) (v:=.bool (inB C.bp 0 100)) rfl (by kernel_rfl) (fun β ρ w' hM'=>W4 w') ?_
     cases h4:inB C.bp 0 100 with
     | false=>
      have e:cfgB C=false:=decide_eq_false fun k=>inB_no h4 (by omega)
      rw [e]
      conv=>arg 5;whnf
      exact wp_back fun β ρ w' hM'=>⟨rfl,hM'.below⟩
     | true=>
      conv=>arg 5;whnf
      refine meetc (f:=151) (v:=.bool (inB C.fd 1 16)) rfl (by kernel_rfl) (fun β ρ w' hM'=>W5 w') ?_
      cases h5:inB C.fd 1 16 with
      | false=>
       have e:cfgB C=false:=decide_eq_false fun k=>inB_no h5 (by omega)
       rw [e]
       conv=>arg 5;whnf
       exact wp_back fun β ρ w' hM'=>⟨rfl,hM'.below⟩
      | true=>
       conv=>arg 5;whnf
       refine meetc (f:=151) (v:=.bool (inB C.wk 1 4)) rfl (by kernel_rfl) (fun β ρ w' hM'=>W6 w') ?_
       cases h6:inB C.wk 1 4 with
       | false=>
        have e:cfgB C=false:=decide_eq_false fun k=>inB_no h6 (by omega)
        rw [e]
        conv=>arg 5;whnf
        exact wp_back fun β ρ w' hM'=>⟨rfl,hM'.below⟩
       | true=>
        conv=>arg 5;whnf
        refine meetc (f:=151) (v:=.bool (inB C.rm 1 8)) rfl (by kernel_rfl) (fun β ρ w' hM'=>W7 w') ?_
        cases h7:inB C.rm 1 8 with
        | false=>
         have e:cfgB C=false:=decide_eq_false fun k=>inB_no h7 (by omega)
         rw [e]
         conv=>arg 5;whnf
         exact wp_back fun β ρ w' hM'=>⟨rfl,hM'.below⟩
        | true=>
         have e:cfgB C=true:=decide_eq_true (by have:=inB_iff.1 h0;have:=inB_iff.1 h1;have:=inB_iff.1 h2;have:=inB_iff.1 h3;have:=inB_iff.1 h4;have:=inB_iff.1 h5;have:=inB_iff.1 h6;have:=inB_iff.1 h7;omega)
         rw [e]
         conv=>arg 5;whnf
         exact wp_back fun β ρ w' hM'=>⟨rfl,hM'.below⟩
end Go.Proofs.YtfhgkkcpkcjbmaaGreatDoor.pool
namespace Go.Proofs.YtfhgkkcpkcjbmaaGreatDoor.pool
open Go.RowKit Sx txn queue greedy shard
theorem checkV_base {s b per:Int} {l:List Tx} (h:checkV s b per l=true):0≤s∧s≤255∧0≤b∧b≤4294967295∧(l.length:Int)≤per:=by
 unfold checkV at h
 simp only [Bool.and_eq_true,inB_iff,decide_eq_true_eq] at h
 omega
end Go.Proofs.YtfhgkkcpkcjbmaaGreatDoor.pool
namespace Go.Proofs.YtfhgkkcpkcjbmaaGreatDoor.pool
open Go.RowKit Sx txn queue greedy shard
structure Oq where
 k:Int
 s:Int
 v:Int
 g:Int
 d:ByteArray
def Oq.val (O:Oq):Value:=.agg #[.int .i64 O.k,.int .i64 O.s,.int .i64 O.v,.int .i64 O.g,.string O.d]
structure Rq where
 e:Int
 t:Tx
 l:List Tx
 n:Int
def resV (r:Rq) (a:Option Addr) (c:Nat):Value:=.agg #[.int .i64 r.e,.int .i64 r.t.s,.int .i64 r.t.n,.int .i64 r.t.t,.int .i64 r.t.c,.int .i64 r.t.g,.string r.t.d,.slice a r.l.length c,.int .i64 r.n]
abbrev Ev:=Int×Tx
def evC (q:Ev):List Value:=[.int .i64 q.1,.int .i64 q.2.s,.int .i64 q.2.n,.int .i64 q.2.t,.int .i64 q.2.c,.int .i64 q.2.g,.string q.2.d,.int .i64 0]
def cellsE (l:List Ev):List Value:=l.flatMap evC
theorem cellsE_snoc (l:List Ev) (q:Ev):cellsE (l++[q])=cellsE l++evC q:=by simp [cellsE]
theorem cellsE_app (l r:List Ev):cellsE (l++r)=cellsE l++cellsE r:=by simp [cellsE]
theorem cellsE_length (l:List Ev):(cellsE l).length=l.length*8:=by
 induction l with
 | nil=>rfl
 | cons x l ih=>unfold cellsE at *;rw [List.flatMap_cons,List.length_append,ih];simp [evC];omega
theorem cellsE_one (l:List Ev):∀u∈cellsE l,u.oneCell'=true:=by
 intro u hu
 obtain ⟨x,_,hx⟩:=List.mem_flatMap.1 hu
 simp only [evC,List.mem_cons,List.not_mem_nil,or_false] at hx
 rcases hx with rfl | rfl | rfl | rfl | rfl | rfl | rfl | rfl <;> rfl
theorem newO {W:World} {u:Option Addr} {n:Nat} {xs:List Value} (f:Fresh W none u):∀g,(rowF (pt u n) xs).g=some g→W.heap.size≤g:=fun g hg=>by
 by_cases h:n=0
 ·rw [show pt u n=none from if_pos h] at hg;cases hg
 ·rw [show pt u n=u from if_neg h] at hg
  cases u with
  | none=>cases hg
  | some ad=>cases hg;exact (f ad rfl).resolve_right (by simp)
theorem spl_acc (A B:List Ac) (y:Ac) (u:Option Addr) (cu:Nat):spl (cellsA (A++y::B)) (A.length*3+2) [.slice u y.n cu]=cellsA ((A++[⟨y.s,y.b,u,y.n,cu,y.l⟩])++B):=by
 unfold spl
 rw [cellsA_app,cellsA_app,cellsA_append]
 have h1:cellsA (y::B)=y.cs++cellsA B:=rfl
 have h2:(cellsA A).length=A.length*3:=cellsA_length A
 rw [h1,List.take_append,List.drop_append,h2]
 have e1:(cellsA A).take (A.length*3+2)=cellsA A:=List.take_of_length_le (by omega)
 have e2:(cellsA A).drop (A.length*3+2+[Value.slice u y.n cu].length)=[]:=List.drop_of_length_le (by rw [h2];simp only [List.length_singleton];omega)
 rw [e1,e2,show A.length*3+2 - A.length*3=2 by omega,show A.length*3+2+[Value.slice u y.n cu].length - A.length*3=3 by simp only [List.length_singleton];omega]
 simp [Ac.cs]
end Go.Proofs.YtfhgkkcpkcjbmaaGreatDoor.pool
namespace Go.Proofs.YtfhgkkcpkcjbmaaGreatDoor.pool
open Go.RowKit Sx txn queue greedy shard
def evL (κ:Int) (l:List Tx):List Ev:=l.map fun t=>(κ,t)
theorem evL_take {κ:Int} {l:List Tx} {k:Nat} {x:Tx} (h:l[k]?=some x):evL κ (l.take (k+1))=evL κ (l.take k)++[(κ,x)]:=by unfold evL;rw [List.take_add_one,h,List.map_append];rfl
theorem evL_len (κ:Int) (l:List Tx):(evL κ l).length=l.length:=List.length_map _
end Go.Proofs.YtfhgkkcpkcjbmaaGreatDoor.pool
namespace Go.Proofs.YtfhgkkcpkcjbmaaGreatDoor.pool
open Go.RowKit Sx txn queue greedy shard
theorem getP_fit {L:List Ac} (h:∀x∈L,x.fit) (s:Int):(getP (L.map acP) s).2.2.length≤1000000∧∀t∈(getP (L.map acP) s).2.2,t.d.size≤maxLen:=by
 cases e:ofS s L with
 | nil=>rw [getP_nil e];exact ⟨Nat.zero_le _,fun t ht=>by cases ht⟩
 | cons x r=>
  rw [getP_cons e]
  have hx:x∈L:=by
   have:x∈ofS s L:=by rw [e];exact .head _
   unfold ofS ofK at this
   exact (List.mem_filter.1 this).1
  exact ⟨(h x hx).2.2.1,(h x hx).2.2.2⟩
end Go.Proofs.YtfhgkkcpkcjbmaaGreatDoor.pool
namespace Go.Proofs.YtfhgkkcpkcjbmaaGreatDoor.pool
open Go.RowKit Sx txn queue greedy shard
theorem putGo_bd (is:Bool) (t:Tx):∀(l:List Tx) (b:Bool),(putGo is t l b).length≤l.length+1∧(b=true→(putGo is t l b).length≤l.length)∧∀x∈putGo is t l b,x∈l∨x=t
 | [],b=>by cases b <;> simp [putGo]
 | x::l,b=>by
  obtain ⟨h1,h2,h3⟩:=putGo_bd is t l true
  obtain ⟨g1,g2,g3⟩:=putGo_bd is t l false
  have h2:=h2 rfl
  unfold putGo
  cases b with
  | true=>
   simp only [Bool.not_true,Bool.false_and,cond_false,List.length_cons]
   refine ⟨by omega,fun _=>by omega,fun y hy=>?_⟩
   rcases List.mem_cons.1 hy with rfl | hy
   ·exact .inl (.head _)
   ·exact (h3 y hy).elim (fun h=>.inl (.tail _ h)) .inr
  | false=>
   simp only [Bool.not_false,Bool.true_and]
   cases (x.n==t.n) with
   | true=>
    simp only [cond_true,List.length_cons]
    refine ⟨by omega,fun h=>(by cases h),fun y hy=>?_⟩
    rcases List.mem_cons.1 hy with rfl | hy
    ·exact .inr rfl
    ·exact (h3 y hy).elim (fun h=>.inl (.tail _ h)) .inr
   | false=>
    cases (!is&&decide (x.n>t.n)) with
    | true=>
     simp only [cond_true,cond_false,List.length_cons]
     refine ⟨by omega,fun h=>(by cases h),fun y hy=>?_⟩
     rcases List.mem_cons.1 hy with rfl | hy
     ·exact .inr rfl
     ·rcases List.mem_cons.1 hy with rfl | hy
      ·exact .inl (.head _)
      ·exact (h3 y hy).elim (fun h=>.inl (.tail _ h)) .inr
    | false=>
     simp only [cond_false,List.length_cons]
     refine ⟨by omega,fun h=>(by cases h),fun y hy=>?_⟩
     rcases List.mem_cons.1 hy with rfl | hy
     ·exact .inl (.head _)
     ·exact (g3 y hy).elim (fun h=>.inl (.tail _ h)) .inr
theorem putV_bd (t:Tx) (l:List Tx):(putV t l).length≤l.length+1∧∀x∈putV t l,x∈l∨x=t:=⟨(putGo_bd _ t l false).1,(putGo_bd _ t l false).2.2⟩
theorem placeV_ok {s b per:Int} {l:List Tx} {t:Tx} {bump:Int} (h:(placeV s b per l t bump).2=0):checkV s b per l=true∧t.ok=true∧t.s=s∧b≤t.n∧inB bump 0 100=true∧-13≤(placeV s b per l t bump).1∧(placeV s b per l t bump).1≤13:=by
 unfold placeV at h ⊢
 cases h1:(checkV s b per l&&t.ok&&(t.s==s)&&inB bump 0 100) with
 | false=>rw [h1] at h;exact absurd h (by simp)
 | true=>
  rw [h1] at h
  simp only [Bool.and_eq_true,beq_iff_eq] at h1
  cases h2:decide (t.n<b) with
  | true=>rw [h2] at h;exact absurd h (by simp)
  | false=>
   rw [h2] at h
   have h3:=of_decide_eq_false h2
   refine ⟨h1.1.1.1,h1.1.1.2,h1.1.2,by omega,h1.2,?_⟩
   simp only [Bool.not_true,cond_false]
   have hb1:=slotV_bd t
   have hb2:=slotV_bd (findV l t.n).1
   cases (findV l t.n).2 with
   | true=>
    simp only [cond_true]
    unfold replV
    cases (!rz.raiseB (findV l t.n).1.t bump||decide (t.t<rz.raiseV (findV l t.n).1.t bump)) with
    | true=>simp
    | false=>simp only [cond_false];omega
   | false=>
    simp only [cond_false]
    cases ((l.length:Int)==per) with
    | true=>simp
    | false=>simp only [cond_false];omega
section
variable {P : Program} {W : World} {G : Option Nat} {Q : Ending → World → Prop} {ds : List Deferred}
theorem meet2F {f:FuncId} {args:List Sx.T} {l:List Value} {m:M} {k:Value→List Fact→Tree} {n n2:Nat} {v:Option Addr→Nat→Option Addr→Nat→Value} {xs ys:List Value} (hv:valsOf args=some l) (hc:callable P f=true)
  (hC:∀β ρ w,Mem W G m β ρ w→Calls P f (List.toArray l) w fun e w'=>∃i:Two,(Sl i.1.1 n i.1.2∧Sl i.2.1 n2 i.2.2)∧Gives w w' e (v i.1.1 i.1.2 i.2.1 i.2.2) [rowF (pt i.1.1 n) xs,rowF (pt i.2.1 n2) ys]) (h:∀a c a2 c2,Sl a n c→Sl a2 n2 c2→(∀φ∈[rowF (pt a n) xs,rowF (pt a2 n2) ys],∀g,φ.g=some g→W.heap.size≤g)→(k (v a c a2 c2) [rowF (pt a n) xs,rowF (pt a2 n2) ys]).wpD P W G Q ds):(Tree.call f args m k).wpD P W G Q ds:=
 meetR (ι:=Two) (ok:=fun i=>(Sl i.1.1 n i.1.2∧Sl i.2.1 n2 i.2.2)∧∀φ∈[rowF (pt i.1.1 n) xs,rowF (pt i.2.1 n2) ys],∀g,φ.g=some g→W.heap.size≤g) (v:=fun i=>v i.1.1 i.1.2 i.2.1 i.2.2) (fs:=fun i=>[rowF (pt i.1.1 n) xs,rowF (pt i.2.1 n2) ys]) hc (fun β ρ w vs hm hr=>by
  rw [valsOf_spec _ _ _ hv hr]
  exact (hC β ρ w hm).mono fun e w' ⟨i,hi,hg⟩=>⟨i,⟨hi,fun φ hφ g hgg=>Nat.le_trans hm.grown.size (hg.2.2 φ hφ g hgg).1⟩,hg⟩) (fun i hi=>h i.1.1 i.1.2 i.2.1 i.2.2 hi.1.1 hi.1.2 hi.2)
end
end Go.Proofs.YtfhgkkcpkcjbmaaGreatDoor.pool
namespace Go.Proofs.YtfhgkkcpkcjbmaaGreatDoor.pool
open Go.RowKit Sx txn queue greedy shard
def goodB (per:Int) (x:PA):Bool:=checkV x.1 x.2.1 per x.2.2 && !emptyV x.2.1 x.2.2.length
abbrev Ord (P:List PA):Prop:=P.Pairwise (fun x y=>x.1<y.1)
theorem good_iff {per:Int} {x:PA}:goodB per x=true↔(0≤x.1∧x.1≤255∧0≤x.2.1∧x.2.1≤4294967295∧1≤per∧per≤16∧(x.2.2.length:Int)≤per∧risesV x.1 x.2.1 x.2.2=true)∧emptyV x.2.1 x.2.2.length=false:=by
 unfold goodB checkV
 simp only [Bool.and_eq_true,inB_iff,decide_eq_true_eq,Bool.not_eq_true',and_assoc]
theorem ofK_in {P:List PA} (hp:Ord P) {x:PA} (hx:x∈P):ofK (fun y:PA=>y.1) x.1 P=[x]:=by
 induction P with
 | nil=>cases hx
 | cons y r ih=>
  unfold Ord at hp ih
  rw [List.pairwise_cons] at hp
  unfold ofK at *
  rcases List.mem_cons.1 hx with rfl | hx
  ·rw [List.filter_cons_of_pos (by simp)]
   rw [List.filter_eq_nil_iff.2 (fun z hz=>by have:=hp.1 z hz;simp;omega)]
  ·have:=hp.1 x hx
   rw [List.filter_cons_of_neg (by simp;omega)]
   exact ih hp.2 hx
theorem getP_in {P:List PA} (hp:Ord P) {x:PA} (hx:x∈P):getP P x.1=x:=by unfold getP;rw [ofK_in hp hx]
theorem getP_or (P:List PA) (s:Int):(getP P s∈P∧(getP P s).1=s)∨(getP P s=(s,0,[])∧∀x∈P,x.1≠s):=by
 unfold getP
 cases h:ofK (fun x:PA=>x.1) s P with
 | nil=>
  refine .inr ⟨rfl,fun x hx e=>?_⟩
  unfold ofK at h
  rw [List.filter_eq_nil_iff] at h
  exact h x hx (by simpa using e)
 | cons x r=>
  have hx:x∈ofK (fun x:PA=>x.1) s P:=by rw [h];exact .head _
  unfold ofK at hx
  rw [List.mem_filter] at hx
  exact .inl ⟨hx.1,by simpa using hx.2⟩
theorem find_self {s b:Int} {t:Tx}:∀{l:List Tx} {b:Int},risesV s b l=true→t∈l→findV l t.n=(t,true)
 | [],_,_,h=>by cases h
 | x::l,b,hr,h=>by
  obtain ⟨r1,r2,r3,r4⟩:=rises_cons hr
  rw [findV_cons]
  rcases List.mem_cons.1 h with rfl | h
  ·rw [if_pos rfl]
  ·have:=(rises_all r4 t h).2.2
   rw [if_neg (by omega)]
   exact find_self (s:=s) (b:=b) r4 h
end Go.Proofs.YtfhgkkcpkcjbmaaGreatDoor.pool
namespace Go.Proofs.YtfhgkkcpkcjbmaaGreatDoor.pool
open Go.RowKit Sx txn queue greedy shard
theorem worst_in {L:List Ac} (h:(worstV L).2=true):∃x∈L,(worstV L).1∈x.l:=by
 unfold worstV at h ⊢
 split at h
 ·rename_i h0
  rw [if_pos h0]
  refine lastsV_mem ?_
  have hlt:heap.worstTo (lastsV L) (lastsV L).length<(lastsV L).length:=by have:=heap.worstTo_lt (lastsV L) (lastsV L).length;omega
  exact List.mem_of_getElem? (nx_get hlt)
 ·cases h
end Go.Proofs.YtfhgkkcpkcjbmaaGreatDoor.pool
namespace Go.Proofs.YtfhgkkcpkcjbmaaGreatDoor.pool
open Go.RowKit Sx txn queue greedy shard
theorem setP_le (L:List PA) (a:PA):(setP L a).length≤L.length+1:=by
 unfold setP setF
 have:∀(L A B:List PA),((L.foldl (setS a) (A,B)).1).length+((L.foldl (setS a) (A,B)).2).length≤A.length+B.length+L.length:=by
  intro L
  induction L with
  | nil=>intro A B;simp
  | cons x L ih=>
   intro A B
   rw [List.foldl_cons]
   unfold setS
   by_cases h1:x.1=a.1
   ·rw [if_pos h1];have:=ih A B;unfold setS at this;rw [List.length_cons];omega
   ·rw [if_neg h1]
    by_cases h2:B≠[]∨a.1<x.1
    ·rw [if_pos h2];have:=ih A (B++[x]);unfold setS at this;rw [List.length_append] at this;rw [List.length_cons];simp at this ⊢;omega
    ·rw [if_neg h2];have:=ih (A++[x]) B;unfold setS at this;rw [List.length_append] at this;rw [List.length_cons];simp at this ⊢;omega
 have h1:=this L [] []
 have h2:(if emptyV a.2.1 a.2.2.length then ([]:List PA) else [a]).length≤1:=by cases emptyV a.2.1 a.2.2.length <;> simp
 rw [List.length_append,List.length_append]
 simp only [List.length_nil] at h1
 omega
end Go.Proofs.YtfhgkkcpkcjbmaaGreatDoor.pool
namespace Go.Proofs.YtfhgkkcpkcjbmaaGreatDoor.pool
open Go.RowKit Sx txn queue greedy shard
theorem ev_neq (x y:Operand) (q:Ev) (w:World):(do eqGuard .neq 122 x y (.agg (evC q).toArray) (.agg (evC q).toArray);pure (Next.value (← binOp .neq 122 (.agg (evC q).toArray) (.agg (evC q).toArray))):Sem Next).run Tryz.prog w=.ok (.value (.bool false)) w:=by
 simp [evC,eqGuard,go_sem]
theorem cellsE_at:∀{l:List Ev} {k:Nat} {x:Ev},l[k]?=some x→∀(j:Nat) (u:Value),(evC x)[j]?=some u→(cellsE l)[k*8+j]?=some u
 | [],k,x,h=>by cases h
 | y::l,0,x,h=>by
  cases h
  intro j u hu
  have hj:j<(evC y).length:=(List.getElem?_eq_some_iff.1 hu).1
  show ((evC y)++cellsE l)[0*8+j]?=some u
  rw [show 0*8+j=j by omega,List.getElem?_append_left hj]
  exact hu
 | y::l,k+1,x,h=>by
  intro j u hu
  have:=cellsE_at (l:=l) (k:=k) (x:=x) h j u hu
  show ((evC y)++cellsE l)[(k+1)*8+j]?=some u
  have hl:(evC y).length=8:=rfl
  rw [List.getElem?_append_right (by omega),hl,show (k+1)*8+j - 8=k*8+j by omega]
  exact this
theorem revents (l:List Ev) (a:Option Addr) (c:Nat) (a2:Option Addr) (c2:Nat) (w:World) (hs:Sl a l.length c) (hrow:At w (pt a l.length) (cellsE l)) (hs2:Sl a2 l.length c2) (hrow2:At w (pt a2 l.length) (cellsE l)) :
  Calls Tryz.prog 24 (List.toArray [.slice a l.length c,.slice a2 l.length c2]) w fun e w'=>e=.returned (.bool true)∧Below w.heap.size w w':=by
 have hn63:=hs.le
 refine calls_of_exec Sxs.env_ok.keeps Tryz.func24 rfl [(6,(line [0,1,2,3,4,5,6,7,8],[]))] (schedQ_ok _ _ (by kernel_rfl)) [rowF (pt a l.length) (cellsE l),rowF (pt a2 l.length) (cellsE l)] (fun φ hφ g hg=>by simp only [List.mem_cons,List.not_mem_nil,or_false] at hφ;rcases hφ with rfl | rfl <;> first | exact hrow g hg | exact hrow2 g hg) ?_
 conv=>arg 5;whnf
 refine wp_br (fun h=>absurd h (by simp)) (fun h=>?_)
 conv=>arg 5;whnf
 refine loop_rule Sxs.env_ok.keeps [(6,(line [0,1,2,3,4,5,6,7,8],[]))] (schedQ_ok _ _ (by kernel_rfl)) (fun k:Nat=>k≤l.length) (fun k=>(⟨[],[],[rowF (pt a l.length) (cellsE l),rowF (pt a2 l.length) (cellsE l)]⟩,[.v (.slice a l.length c),.v (.slice a2 l.length c2),.any,.any,.any,.v (.int .i64 k),.any,.any,.any,.any,.any,.any,.any,.any,.any,.any,.any,.any,.any,.any,.any,.any,.any,.any,.any,.any])) (fun k=>l.length - k) 0 (Nat.zero_le _) ⟨by repeat' first | exact trivial | refine ⟨.inl rfl,?_⟩ | refine ⟨.inr rfl,?_⟩,⟨by repeat' first | exact trivial | refine ⟨.inl rfl,?_⟩ | refine ⟨.inr rfl,?_⟩,by repeat' first | exact trivial | refine ⟨.inl rfl,?_⟩ | refine ⟨.inr rfl,?_⟩,fun _ h=>h⟩,rfl⟩ ?_
 intro k hk
 conv=>arg 5;whnf
 refine wp_br (fun h1=>?_) (fun h1=>?_)
 ·have hlt:k<l.length:=by have h3:=of_decide_eq_true (show decide ((k:Int)<(l.length:Int))=true from h1);omega
  obtain ⟨x,hx⟩:∃x,l[k]?=some x:=⟨_,List.getElem?_eq_getElem (by omega)⟩
  conv=>arg 5;whnf
  refine wp_must ⟨by omega,by show (k:Int)<(l.length:Int);omega,hs.some hlt⟩ ?_
  conv=>arg 5;whnf
  refine readG Sxs.env_ok (vs:=evC x) (sz:=8) (k:=k) rfl rfl (.head _) hlt (hs.some hlt) (cellsE_at hx) rfl ?_
  conv=>arg 5;whnf
  refine wp_must ⟨by omega,by show (k:Int)<(l.length:Int);omega,hs2.some hlt⟩ ?_
  conv=>arg 5;whnf
  refine readG Sxs.env_ok (vs:=evC x) (sz:=8) (k:=k) rfl rfl (by exact .tail _ (.head _)) hlt (hs2.some hlt) (cellsE_at hx) rfl ?_
  conv=>arg 5;whnf
  refine wp_prim (.bool false) (fun w=>ev_neq _ _ x w) ?_
  conv=>arg 5;whnf
  refine wp_must ⟨by show -9223372036854775808≤(k:Int)+1;omega,by show (k:Int)+1≤9223372036854775807;omega⟩ ?_
  conv=>arg 5;whnf
  refine wp_end ⟨k+1,hlt,⟨by repeat' first | exact trivial | refine ⟨.inl rfl,?_⟩ | refine ⟨.inr rfl,?_⟩,⟨by repeat' first | exact trivial | refine ⟨.inl rfl,?_⟩ | refine ⟨.inr rfl,?_⟩,by repeat' first | exact trivial | refine ⟨.inl rfl,?_⟩ | refine ⟨.inr rfl,?_⟩,fun _ h=>h⟩,rfl⟩,by show l.length - (k+1)<l.length - k;omega⟩
 ·skip
  conv=>arg 5;whnf
  exact wp_back fun β ρ w' hM'=>⟨rfl,hM'.below⟩
theorem rsameR (r:Rq) (ta:Option Addr) (tc:Nat) (tb:Option Addr) (td:Nat) (w:World) (hs:Sl ta r.l.length tc) (hrow:At w (pt ta r.l.length) (cellsL r.l)) (hs2:Sl tb r.l.length td) (hrow2:At w (pt tb r.l.length) (cellsL r.l)) :
  Calls Tryz.prog 46 (List.toArray [resV r ta tc,resV r tb td]) w fun e w'=>e=.returned (.bool true)∧Below w.heap.size w w':=by
 have TX:=fun w hr hr2=>rtxs r.l ta r.l.length tc tb td w hs rfl hr hs2 hr2
 refine calls_of_exec Sxs.env_ok.keeps Tryz.func46 rfl [] (schedQ_ok _ _ (by kernel_rfl)) [rowF (pt ta r.l.length) (cellsL r.l),rowF (pt tb r.l.length) (cellsL r.l)] (fun φ hφ g hg=>by simp only [List.mem_cons,List.not_mem_nil,or_false] at hφ;rcases hφ with rfl | rfl <;> first | exact hrow g hg | exact hrow2 g hg) ?_
 conv=>arg 5;whnf
 refine wp_g1 (fun _=>?_) (fun h=>by simp at h)
 conv=>arg 5;whnf
 refine wp_prim (.bool true) (fun w=>eq_same' _ _ r.t w) ?_
 conv=>arg 5;whnf
 refine wp_g1 (fun _=>?_) (fun h=>by simp at h)
 conv=>arg 5;whnf
 refine meetc (f:=92) (v:=.bool true) rfl (by kernel_rfl) (fun β ρ w' hM'=>TX w' (hM'.at_ (.head _)) (hM'.at_ (.tail _ (.head _)))) ?_
 conv=>arg 5;whnf
 exact wp_back fun β ρ w' hM'=>⟨rfl,hM'.below⟩
def toA (p:PA):Ac:=⟨p.1,p.2.1,none,p.2.2.length,0,p.2.2⟩
end Go.Proofs.YtfhgkkcpkcjbmaaGreatDoor.pool
namespace Go.Proofs.YtfhgkkcpkcjbmaaGreatDoor.pool
open Go.RowKit Sx txn queue greedy shard
def Oq.cs (O:Oq):List Value:=[.int .i64 O.k,.int .i64 O.s,.int .i64 O.v,.int .i64 O.g,.string O.d]
end Go.Proofs.YtfhgkkcpkcjbmaaGreatDoor.pool
namespace Go.Proofs.YtfhgkkcpkcjbmaaGreatDoor.pool
open Go.RowKit Sx txn queue greedy shard
abbrev T1:Tx:=⟨1,0,5,9,10,ByteArray.empty⟩
abbrev T2:Tx:=⟨2,0,4,9,10,ByteArray.empty⟩
def bz (x:Tx):ByteArray:=⟨(encV x).toArray⟩
abbrev A1:PA:=(1,0,[T1])
abbrev A2:PA:=(2,0,[T2])
end Go.Proofs.YtfhgkkcpkcjbmaaGreatDoor.pool
namespace Go.Proofs.YtfhgkkcpkcjbmaaGreatDoor.pool
open Go.RowKit Sx txn queue greedy shard
theorem enc_ (x:Tx) (hok:x.ok=true) (w:World) (hd:x.d.size≤maxLen):Calls Tryz.prog 51 (List.toArray [x.val]) w fun e w'=>e=.returned (.tuple #[.string (bz x),.bool true])∧Below w.heap.size w w':=by
 have:=rencode x w hd
 rw [hok] at this
 exact this
end Go.Proofs.YtfhgkkcpkcjbmaaGreatDoor.pool
namespace Go.Proofs.YtfhgkkcpkcjbmaaGreatDoor.pool
open Go.RowKit Go.ChangeShapes Go.WideShapes Sx txn queue greedy shard
theorem typed_cfg:Typed Tryz.prog 23 (.flat [.int,.int,.int,.int,.int,.int,.int,.int]):=.struct Tryz.underlying23 (.cons rfl typed_int (.cons rfl typed_int (.cons rfl typed_int (.cons rfl typed_int (.cons rfl typed_int (.cons rfl typed_int (.cons rfl typed_int (.cons rfl typed_int (.nil))))))))) (by kernel_rfl)
end Go.Proofs.YtfhgkkcpkcjbmaaGreatDoor.pool
