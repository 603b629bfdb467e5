/- hopper/hopperlaw18.SnapFails answers true at every input, and every argument reads behind the call as it read before; hopper/txn.most holds what the program's text lays there: the card ties it. No other condition. -/
import Derived.Test.YtdbjakibneeeiaaGreatDoorRows
import Derived.Test.YtdbjakibneeeiaaGreatDoorCards
import Derived.Test.YtdbjakibneeeiaaGreatDoorTie
import Derived.Test.YtdbjakibneeeiaaGreatDoorKSnapFailsP
import Derived.Test.YtdbjakibneeeiaaGreatDoorKSnapFailsJ
import Derived.Test.YtdbjakibneeeiaaGreatDoorKG26ExO
import Derived.Test.YtdbjakibneeeiaaGreatDoorKTxnMost
import Derived.WalkKit
import Derived.ProofKit
import Derived.OpenShut
import Derived.ShutString
import Derived.ChangeOld
import Derived.Below
import Derived.LaidLaws
import Derived.Handed
import Derived.SevenTiedAt
set_option linter.all false
set_option maxHeartbeats 4000000
set_option maxRecDepth 100000
namespace Go.Proofs.YtdbjakibneeeiaaGreatDoor.snapFails
open Go.ChangeShapes Go.WideShapes Go.ChangeAt Go.RowKit Sx Ex
open Go.ChangeMaps (open_string shut_string)
theorem own:ownKnob Tryz.prog.godebug=none:=by kernel_rfl
theorem laidOut:laidOutB Tryz.prog=true:=by kernel_rfl
noncomputable def vT (os:Os):World:=
 let w0:=World.holding Tryz.prog os ⟨#[],#[],[]⟩
 { w0 with heap:=w0.heap.modify 0 fun
   | .cells _ t frozen=>.cells #[.int .i64 255,.int .i64 4294967295,.int .i64 1099511627776,.int .i64 1099511627776,.int .i64 1073741824] t frozen
   | o=>o }
theorem Eo (os:Os) (args:Array Value):laidMet Tryz.prog Rows.snapFailsRow.laid ((vT os).forCall (fun _ _=>0) ⟨#[],args,[]⟩).memory:=
 laidMet_of_run (ps:=[.cell 0 0,.cell 0 1,.cell 0 2,.cell 0 3,.cell 0 4]) 8 (by kernel_rfl) (by kernel_rfl) (by kernel_rfl)
theorem lifted (os:Os) (started:os.Started) (H:Type) (enc:TypeId×Value→H) :
  ReturnsInHanded {} Tryz.checked os 7 .any (fun w args=>(Rows.snapFailsSpec.pre enc Tryz.prog Tryz.f7 Rows.snapFailsRow.domain false w args∧laidMet Tryz.prog Rows.snapFailsRow.laid w)∧sizedMet enc Tryz.prog Tryz.f7 (OpenSpec.ofChange Rows.snapFailsSpec) false w args) (Rows.snapFailsSpec.post enc Tryz.prog Tryz.f7 false true false false):=by
 refine returnsInHanded_of_change_and (C:=Tryz.checked) (X:=fun w _=>laidMet Tryz.prog Rows.snapFailsRow.laid w) (fun _ _ _ hh h=>h.of_heap hh) own started (by kernel_rfl) Tryz.func7
  (ChangeSpec.witness_at (enc:=enc) (C:=Tryz.checked) (os:=os) (X:=fun w _=>laidMet Tryz.prog Rows.snapFailsRow.laid w) false (vT os) #[.int .i64 0,.agg #[.int .i64 0,.int .i64 0],.agg #[.int .i64 0,.int .i64 0,.int .i64 0,.int .i64 0,.int .i64 0,.int .i64 0,.int .i64 0,.int .i64 0,.slice none 0 0,.int .i64 0,.int .i64 0,.slice none 0 0]] 8 rfl (by kernel_rfl) (by kernel_rfl) (by kernel_rfl) (by kernel_rfl) (by kernel_rfl) (Eo os _)) ?_
 intro W base args ds gs before hval0 hW hcnd _ hL _
 have hval:∀(j:Nat) t v,Tryz.f7.params[j]?=some t→args[j]?=some v→Value.okWide Tryz.prog W .any base t v:=hval0
 have hW':=hW
 obtain ⟨p,q,hA0,hV,rfl,hfz,hnd⟩:=hW
 have hA:DataW.TrodAll enc Tryz.prog W 0 (fun _=>true) true Tryz.f7.params.toList args.toList ds p:=hA0
 rw [Tryz.params7] at hA hval
 obtain ⟨v0,vs0,d0,ds0,p0,q0,hargs,rfl,rfl,h0,r0⟩:=trodAll_cons hA
 obtain ⟨v1,vs1,d1,ds1,p1,q1,rfl,rfl,rfl,h1,r1⟩:=trodAll_cons r0
 obtain ⟨v2,vs2,d2,ds2,p2,q2,rfl,rfl,rfl,h2,r2⟩:=trodAll_cons r1
 obtain ⟨rfl,rfl,rfl⟩:=trodAll_nil r2
 obtain rfl:args = #[v0,v1,v2]:=by cases args;simp_all
 obtain ⟨rfl,rfl⟩:=trodVars_none hV
 have lt0:∀x∈p0,x.block<W.heap.size:=by obtain ⟨m,hm⟩:=h0;exact DataW.trod_lt m _ _ _ hm
 obtain ⟨x0,l0,f0⟩:=uD (s:=.int) 40 (by kernel_rfl) (hval 0 3 v0 rfl rfl) h0
 have lt1:∀x∈p1,x.block<W.heap.size:=by obtain ⟨m,hm⟩:=h1;exact DataW.trod_lt m _ _ _ hm
 obtain ⟨x1,l1,f1⟩:=uD (s:=(.flat [.int,.int])) 40 (by kernel_rfl) (hval 1 32 v1 rfl rfl) h1
 have lt2:∀x∈p2,x.block<W.heap.size:=by obtain ⟨m,hm⟩:=h2;exact DataW.trod_lt m _ _ _ hm
 obtain ⟨x2,l2,f2⟩:=uD (s:=(.flat [(.flat [.int,.int,.int,.int,.int,.int,.int,.int]),(.row .int),(.flat [.int,.int]),(.row (.flat [(.row (.flat [.int,.int,(.row (.flat [.int,.int,.int,.int,.int,.str]))])),.int]))])) 40 (by kernel_rfl) (hval 2 38 v2 rfl rfl) h2
 clear hA0 hval0
 have hM:txn.bA W:=txn.xy hL
 refine (B4.Ja (d.a2e.ok.sm 7 _ rfl).2 (w:=W) (x:=((x0,x1,x2,()):af [.int,(.flat [.int,.int]),(.flat [(.flat [.int,.int,.int,.int,.int,.int,.int,.int]),(.row .int),(.flat [.int,.int]),(.row (.flat [(.row (.flat [.int,.int,(.row (.flat [.int,.int,.int,.int,.int,.str]))])),.int]))])])) (vs:=[v0,v1,v2]) hM (d.a1e _ ⟨f0,f1,f2,trivial⟩) ⟨_,_,rfl,l0,⟨_,_,rfl,l1,⟨_,_,rfl,l2,rfl⟩⟩⟩).mono fun e W' ⟨he,bel⟩=>?_
 subst he
 exact ⟨_,rfl,_,_,_,[],_,[],hW',trodAll_mk1 (shut_bool Tryz.underlying4 _),(trodAll_cons_mk (Below.trod laidOut (by kernel_rfl) (of_decide_eq_true (by kernel_rfl)) h0 bel lt0) (trodAll_cons_mk (Below.trod laidOut (by kernel_rfl) (of_decide_eq_true (by kernel_rfl)) h1 bel lt1) (trodAll_cons_mk (Below.trod laidOut (by kernel_rfl) (of_decide_eq_true (by kernel_rfl)) h2 bel lt2) trodAll_mk0))),rfl,bel.frame _,fun h=>by cases h⟩
theorem over:Rows.SnapFailsSaid:=
 OpenClaim.holds_of_wide 7 Tryz.f7 rfl rfl rfl rfl rfl rfl rfl ⟨rfl,rfl,rfl,rfl,rfl⟩ rfl rfl rfl rfl rfl (by as_aux_lemma=>kernel_rfl) Tryz.func7 joined
  (of_decide_eq_true (by as_aux_lemma=>kernel_rfl)) (by unfold Func.isWrapper;first | (rw [if_pos (by decide +kernel)];kernel_rfl) | (rw [if_neg (by decide +kernel)];exact ⟨rfl,rfl⟩))
  (fun os started H enc _=>lifted os started H enc)
theorem proved:Rows.SnapFailsCardSaid:=
 Claim7.holds_tied_plain_at .later [] [.data] true (true,"621008b7ed8bcbc85c9c464b1eac77a3ebf2ef907aac5a48f75506404f4bad47") false
  over (fun _ h=>by cases h) (by as_aux_lemma=>kernel_rfl) (fun _ h=>by cases h) snapFails_row_tie rfl ⟨rfl,rfl⟩ (by as_aux_lemma=>kernel_rfl) rfl
  (fun f fn hf hfn=>by
   obtain rfl:f=7:=(Option.some.inj ((show Tryz.prog.funcNamed "hopper/hopperlaw18.SnapFails" = some 7 by as_aux_lemma=>kernel_rfl).symm.trans hf)).symm
   obtain rfl:fn=Tryz.f7:=(Option.some.inj (Tryz.func7.symm.trans hfn)).symm
   exact ⟨by as_aux_lemma=>kernel_rfl,fun j t ht=>by
    rw [Tryz.params7] at ht
    match j,ht with
    | 0,ht=>
     obtain rfl:t=3:=by simpa using ht.symm
     exact (show Tryz.prog.wantsStandIn 3=false by as_aux_lemma=>kernel_rfl)
    | 1,ht=>
     obtain rfl:t=32:=by simpa using ht.symm
     exact (show Tryz.prog.wantsStandIn 32=false by as_aux_lemma=>kernel_rfl)
    | 2,ht=>
     obtain rfl:t=38:=by simpa using ht.symm
     exact (show Tryz.prog.wantsStandIn 38=false by as_aux_lemma=>kernel_rfl)
    | j+3,ht=>simp at ht⟩)
  (by as_aux_lemma=>kernel_rfl)
#print axioms proved
end Go.Proofs.YtdbjakibneeeiaaGreatDoor.snapFails
