/- hopper/hopperlaw15.LookWhose answers true at every input, and every argument reads behind the call as it read before; hopper/txn.most holds what the program's text lays there: the card ties it. No other condition. -/
import Derived.Test.YtofpmnkkimgkfaaDoorRows
import Derived.Test.YtofpmnkkimgkfaaDoorKTxn
import Derived.OpenShut
import Derived.ChangeOld
import Derived.LaidLaws
import Derived.Test.YtofpmnkkimgkfaaDoorKLkL
import Derived.Test.YtofpmnkkimgkfaaDoorKLkTop
import Derived.Test.YtofpmnkkimgkfaaDoorKPoAll
import Derived.Test.YtofpmnkkimgkfaaDoorCards
import Derived.Test.YtofpmnkkimgkfaaDoorTie
import Derived.WalkKit
import Derived.ProofKit
import Derived.ShutString
import Derived.Below
import Derived.Handed
import Derived.SevenTiedAt
set_option linter.all false
set_option maxHeartbeats 4000000
set_option maxRecDepth 100000
namespace Go.Proofs.YtofpmnkkimgkfaaDoor.txn
open Go.RowKit Go.ChangeShapes Go.WideShapes
theorem most_of_laid {W : World} (h : laidMet Tryd.prog [("hopper/txn.most", Rows.laid_hopper_txn_most)] W) : Most W := by
 obtain ⟨ps, ⟨g, t, cs, fuel, p, q, hg, ht, hvar, hd, _, _⟩, _⟩ := h
 obtain rfl := Option.some.inj ((show Tryd.prog.globalNamed "hopper/txn.most" = some 0 by kernel_rfl).symm.trans hg)
 obtain rfl := Option.some.inj ((show (Tryd.prog.globals[0]?).map (·.type) = some 93 by kernel_rfl).symm.trans ht)
 obtain ⟨xs, m, _, hx, hlen, hn, hi⟩ := DataW.trod_array Tryd.underlying93 hd
 have h5 : cs.toList.length = 5 := hlen.trans (by kernel_rfl)
 obtain ⟨l⟩ := cs
 match l, h5 with
 | [c0, c1, c2, c3, c4], _ =>
  match xs, hn with
  | [y0, y1, y2, y3, y4], _ =>
   have k3 : Tryd.prog.cellsOf 3 = 1 := by kernel_rfl
   have g0 := hi 0 (by omega)
   have g1 := hi 1 (by omega)
   have g2 := hi 2 (by omega)
   have g3 := hi 3 (by omega)
   have g4 := hi 4 (by omega)
   simp [k3] at g0 g1 g2 g3 g4
   obtain ⟨a0, e0, f0, _⟩ := DataW.trod_int Tryd.underlying3 g0
   obtain ⟨a1, e1, f1, _⟩ := DataW.trod_int Tryd.underlying3 g1
   obtain ⟨a2, e2, f2, _⟩ := DataW.trod_int Tryd.underlying3 g2
   obtain ⟨a3, e3, f3, _⟩ := DataW.trod_int Tryd.underlying3 g3
   obtain ⟨a4, e4, f4, _⟩ := DataW.trod_int Tryd.underlying3 g4
   simp at e0 e1 e2 e3 e4
   subst e0 e1 e2 e3 e4 f0 f1 f2 f3 f4
   simp [Rows.laid_hopper_txn_most] at hx
   obtain ⟨⟨r0, r1, r2, r3, r4⟩, _⟩ := hx
   subst r0 r1 r2 r3 r4
   have z0 := World.var?_cell hg hvar 0
   have z1 := World.var?_cell hg hvar 1
   have z2 := World.var?_cell hg hvar 2
   have z3 := World.var?_cell hg hvar 3
   have z4 := World.var?_cell hg hvar 4
   have hz : 0 < W.heap.size := by
    rcases Nat.eq_zero_or_pos W.heap.size with h0 | h0
    ·exfalso
     simp [World.cell?, Array.getElem?_eq_none (show W.heap.size ≤ 0 by omega)] at z0
    ·exact h0
   exact ⟨by simpa using z0, by simpa using z1, by simpa using z2, by simpa using z3, by simpa using z4, hz⟩
end Go.Proofs.YtofpmnkkimgkfaaDoor.txn
namespace Go.Proofs.YtofpmnkkimgkfaaDoor.lookWhose
open Go.RowKit Sx txn queue greedy shard pool Go.Proofs.YtofpmnkkimgkfaaDoor.look
def decV (d : ByteArray) : Option Tx := dec d.data.toList
theorem walk (C : Cf) (O : Oq) (w : World) (hM : Most w) (hC : True) (hO : O.fits) :
  Calls Tryd.prog 6 (List.toArray [C.val, O.val]) w fun e w' => e = .returned (.bool true) ∧ Below w.heap.size w w' := by
 have hdO : O.d.size ≤ maxLen := hO.2.2.2.2
 have WH := fun w hM => look.whose O w hM hdO
 have hbd := @whoL_bd O
 have hno := fun h => @whoL_no O h C.per C.bp
 have L1 := fun w hM (h2 : O.d.size ≤ 1000000) => look.look C (-1, 0, []) none 0 O w hM sl0 (fun g hg => by cases hg) (Nat.zero_le _) (fun t ht => by cases ht) h2
 generalize whoL O = q at *
 obtain ⟨q1, q2⟩ := q
 refine calls_of_exec Sxk.env_ok.keeps.soon_ Tryd.func6 rfl [] (schedQ_ok _ _ (by kernel_rfl)) [] (by simp) ?_
 conv=>arg 5;whnf
 refine meetc (f := 11) (v := .tuple #[.int .i64 q1, .bool q2]) rfl (by kernel_rfl) (fun β ρ w' hM' => WH w' (hM.later hM'.below)) ?_
 conv=>arg 5;whnf
 refine wp_g0 (fun h1 => ?_) (fun h1 => ?_)
 ·have h2 : ¬ (500 : Int) < (O.d.size : Int) := of_decide_eq_false h1
  cases q2 with
  | true =>
   obtain ⟨b1, b2⟩ := hbd rfl
   have b1 : 0 ≤ q1 := b1
   have b2 : q1 ≤ 255 := b2
   conv=>arg 5;whnf
   refine wp_g0 (fun _ => ?_) (fun h => absurd (of_decide_eq_true h) h2)
   conv=>arg 5;whnf
   refine wp_g1 (fun _ => ?_) (fun h => absurd b1 (of_decide_eq_false h))
   conv=>arg 5;whnf
   refine wp_g1 (fun _ => ?_) (fun h => absurd b2 (of_decide_eq_false h))
   conv=>arg 5;whnf
   refine meetc (f := 8) (v := .bool true) rfl (by kernel_rfl) (fun β ρ w' hM' => live w' (hM.later hM'.below)) ?_
   conv=>arg 5;whnf
   exact wp_back fun β ρ w' hM' => ⟨rfl, hM'.below⟩
  | false =>
   obtain ⟨e1, e, he, e2⟩ := hno rfl
   have e1 : q1 = 0 := e1
   subst e1
   rw [e2] at L1
   conv=>arg 5;whnf
   refine meetPl (f := 9) (failL e) [] (by simp) rfl (by kernel_rfl) (fun β ρ w' hM' => L1 w' (hM.later hM'.below) (by omega)) (fun x hx _ => ?_)
   conv=>arg 5;whnf
   refine wp_g1 (fun _ => ?_) (fun h => absurd (show e = 0 by have : (!(e == 0)) = false := h; simpa using this) he)
   conv=>arg 5;whnf
   refine meetc (f := 8) (v := .bool true) rfl (by kernel_rfl) (fun β ρ w' hM' => live w' (hM.later hM'.below)) ?_
   conv=>arg 5;whnf
   exact wp_back fun β ρ w' hM' => ⟨rfl, hM'.below⟩
 ·have h2 : (500 : Int) < (O.d.size : Int) := of_decide_eq_true h1
  conv=>arg 5;whnf
  refine wp_g0 (fun h => absurd h2 (of_decide_eq_false h)) (fun _ => ?_)
  conv=>arg 5;whnf
  refine meetc (f := 8) (v := .bool true) rfl (by kernel_rfl) (fun β ρ w' hM' => live w' (hM.later hM'.below)) ?_
  conv=>arg 5;whnf
  exact wp_back fun β ρ w' hM' => ⟨rfl, hM'.below⟩
end Go.Proofs.YtofpmnkkimgkfaaDoor.lookWhose
namespace Go.Proofs.YtofpmnkkimgkfaaDoor.lookWhose
open Go.ChangeShapes Go.WideShapes Go.ChangeAt Go.RowKit
open Go.ChangeMaps (open_string shut_string)
theorem own : ownKnob Tryd.prog.godebug = none := by kernel_rfl
theorem laidOut : laidOutB Tryd.prog = true := by kernel_rfl
noncomputable def laidWorld (os : Os) : World :=
 let w0 := World.holding Tryd.prog os ⟨#[], #[], []⟩
 { w0 with heap := w0.heap.modify 0 fun
   | .cells _ t frozen => .cells #[.int .i64 255, .int .i64 4294967295, .int .i64 1099511627776, .int .i64 1099511627776, .int .i64 1073741824] t frozen
   | o => o }
theorem laid_met (os : Os) (args : Array Value) : laidMet Tryd.prog Rows.lookWhoseRow.laid ((laidWorld os).forCall (fun _ _ => 0) ⟨#[], args, []⟩).memory :=
 laidMet_of_run (ps := [.cell 0 0, .cell 0 1, .cell 0 2, .cell 0 3, .cell 0 4]) 8 (by kernel_rfl) (by kernel_rfl) (by kernel_rfl)
theorem lifted (os : Os) (started : os.Started) (H : Type) (enc : TypeId × Value → H) :
  ReturnsInHanded {} Tryd.checked os 6 .any (fun w args => (Rows.lookWhoseSpec.pre enc Tryd.prog Tryd.f6 Rows.lookWhoseRow.domain false w args ∧ laidMet Tryd.prog Rows.lookWhoseRow.laid w) ∧ sizedMet enc Tryd.prog Tryd.f6 (OpenSpec.ofChange Rows.lookWhoseSpec) false w args) (Rows.lookWhoseSpec.post enc Tryd.prog Tryd.f6 false true false false) := by
 refine returnsInHanded_of_change_and (C := Tryd.checked) (X := fun w _ => laidMet Tryd.prog Rows.lookWhoseRow.laid w) (fun _ _ _ hh h => h.of_heap hh) own started (by kernel_rfl) Tryd.func6
  (ChangeSpec.witness_at (enc := enc) (C := Tryd.checked) (os := os) (X := fun w _ => laidMet Tryd.prog Rows.lookWhoseRow.laid w) false (laidWorld os) #[.agg #[.int .i64 0, .int .i64 0, .int .i64 0, .int .i64 0, .int .i64 0, .int .i64 0, .int .i64 0, .int .i64 0], .agg #[.int .i64 0, .int .i64 0, .int .i64 0, .int .i64 0, .string ByteArray.empty]] 8 rfl (by kernel_rfl) (by kernel_rfl) (by kernel_rfl) (by kernel_rfl) (by kernel_rfl) (laid_met os _)) ?_
 intro W base args ds gs before hval0 hW hcnd _ hL _
 have hval : ∀ (j : Nat) t v, Tryd.f6.params[j]? = some t → args[j]? = some v → Value.okWide Tryd.prog W .any base t v := hval0
 have hW' := hW
 obtain ⟨p, q, hA0, hV, rfl, hfz, hnd⟩ := hW
 have hA : DataW.TrodAll enc Tryd.prog W 0 (fun _ => true) true Tryd.f6.params.toList args.toList ds p := hA0
 rw [Tryd.params6] at hA hval
 obtain ⟨v0, vs0, d0, ds0, p0, q0, hargs, rfl, rfl, h0, r0⟩ := trodAll_cons hA
 obtain ⟨v1, vs1, d1, ds1, p1, q1, rfl, rfl, rfl, h1, r1⟩ := trodAll_cons r0
 obtain ⟨rfl, rfl, rfl⟩ := trodAll_nil r1
 obtain rfl : args = #[v0, v1] := by cases args; simp_all
 obtain ⟨rfl, rfl⟩ := trodVars_none hV
 have k0 := h0
 have lt0 : ∀ x ∈ p0, x.block < W.heap.size := by obtain ⟨m, hm⟩ := k0; exact DataW.trod_lt m _ _ _ hm
 obtain ⟨C0, rfl, f0⟩ := pool.open_cfg (hval 0 23 v0 rfl rfl) h0
 have k1 := h1
 have lt1 : ∀ x ∈ p1, x.block < W.heap.size := by obtain ⟨m, hm⟩ := k1; exact DataW.trod_lt m _ _ _ hm
 obtain ⟨O1, rfl, f1⟩ := pool.open_op (hval 1 28 v1 rfl rfl) h1
 clear hA0 hval0
 have hM : txn.Most W := txn.most_of_laid hL
 refine (walk C0 O1 W hM f0 f1).mono fun e W' ⟨he, bel⟩ => ?_
 subst he
 exact ⟨_, rfl, _, _, _, [], _, [], hW', trodAll_mk1 (shut_bool Tryd.underlying4 _), (trodAll_cons_mk (Below.trod laidOut (by kernel_rfl) (of_decide_eq_true (by kernel_rfl)) k0 bel lt0) (trodAll_cons_mk (Below.trod laidOut (by kernel_rfl) (of_decide_eq_true (by kernel_rfl)) k1 bel lt1) trodAll_mk0)), rfl, bel.frame _, fun h => by cases h⟩
theorem over : Rows.LookWhoseSaid :=
 OpenClaim.holds_of_wide 6 Tryd.f6 rfl rfl rfl rfl rfl rfl rfl ⟨rfl, rfl, rfl, rfl, rfl⟩ rfl rfl rfl rfl rfl (by kernel_rfl) Tryd.func6 (by kernel_rfl)
  (of_decide_eq_true (by kernel_rfl)) (by unfold Func.isWrapper; first | (rw [if_pos (by decide +kernel)]; kernel_rfl) | (rw [if_neg (by decide +kernel)]; exact ⟨rfl, rfl⟩))
  (fun os started H enc _ => lifted os started H enc)
theorem proved : Rows.LookWhoseCardSaid :=
 Claim7.holds_tied_plain_at .later [] [.data] true (true, "c691626c4052b3d883dc81980693dcab11890168e18de7be2f2f2ad56109042f") false
  over (fun _ h => by cases h) (by kernel_rfl) (fun _ h => by cases h) lookWhose_row_tie rfl ⟨rfl, rfl⟩ (by kernel_rfl) rfl
  (fun f fn hf hfn => by
   obtain rfl : f = 6 := (Option.some.inj ((show Tryd.prog.funcNamed "hopper/hopperlaw15.LookWhose" = some 6 by kernel_rfl).symm.trans hf)).symm
   obtain rfl : fn = Tryd.f6 := (Option.some.inj (Tryd.func6.symm.trans hfn)).symm
   exact ⟨by kernel_rfl, fun j t ht => by
    rw [Tryd.params6] at ht
    match j, ht with
    | 0, ht =>
     obtain rfl : t = 23 := by simpa using ht.symm
     exact (show Tryd.prog.wantsStandIn 23 = false by kernel_rfl)
    | 1, ht =>
     obtain rfl : t = 28 := by simpa using ht.symm
     exact (show Tryd.prog.wantsStandIn 28 = false by kernel_rfl)
    | j + 2, ht => simp at ht⟩)
  (by kernel_rfl)
#print axioms proved
end Go.Proofs.YtofpmnkkimgkfaaDoor.lookWhose
