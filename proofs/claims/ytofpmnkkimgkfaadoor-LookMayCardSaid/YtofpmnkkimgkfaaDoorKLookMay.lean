/- hopper/hopperlaw15.LookMay answers true at every input, and every argument reads behind the call as it read before; hopper/txn.most holds what the program's text lays there: the card ties it. No other condition. -/
import Derived.Test.YtofpmnkkimgkfaaDoorRows
import Derived.Test.YtofpmnkkimgkfaaDoorKTxn
import Derived.OpenShut
import Derived.ChangeOld
import Derived.LaidLaws
import Derived.Test.YtofpmnkkimgkfaaDoorKLkL
import Derived.Test.YtofpmnkkimgkfaaDoorKLkTop
import Derived.Test.YtofpmnkkimgkfaaDoorKPoAll
import Derived.Test.YtofpmnkkimgkfaaDoorCards
import Derived.Test.YtofpmnkkimgkfaaDoorTie
import Derived.WalkKit
import Derived.ProofKit
import Derived.ShutString
import Derived.Below
import Derived.Handed
import Derived.SevenTiedAt
set_option linter.all false
set_option maxHeartbeats 4000000
set_option maxRecDepth 100000
namespace Go.Proofs.YtofpmnkkimgkfaaDoor.txn
open Go.RowKit Go.ChangeShapes Go.WideShapes
theorem most_of_laid {W : World} (h : laidMet Tryd.prog [("hopper/txn.most", Rows.laid_hopper_txn_most)] W) : Most W := by
 obtain ⟨ps, ⟨g, t, cs, fuel, p, q, hg, ht, hvar, hd, _, _⟩, _⟩ := h
 obtain rfl := Option.some.inj ((show Tryd.prog.globalNamed "hopper/txn.most" = some 0 by kernel_rfl).symm.trans hg)
 obtain rfl := Option.some.inj ((show (Tryd.prog.globals[0]?).map (·.type) = some 93 by kernel_rfl).symm.trans ht)
 obtain ⟨xs, m, _, hx, hlen, hn, hi⟩ := DataW.trod_array Tryd.underlying93 hd
 have h5 : cs.toList.length = 5 := hlen.trans (by kernel_rfl)
 obtain ⟨l⟩ := cs
 match l, h5 with
 | [c0, c1, c2, c3, c4], _ =>
  match xs, hn with
  | [y0, y1, y2, y3, y4], _ =>
   have k3 : Tryd.prog.cellsOf 3 = 1 := by kernel_rfl
   have g0 := hi 0 (by omega)
   have g1 := hi 1 (by omega)
   have g2 := hi 2 (by omega)
   have g3 := hi 3 (by omega)
   have g4 := hi 4 (by omega)
   simp [k3] at g0 g1 g2 g3 g4
   obtain ⟨a0, e0, f0, _⟩ := DataW.trod_int Tryd.underlying3 g0
   obtain ⟨a1, e1, f1, _⟩ := DataW.trod_int Tryd.underlying3 g1
   obtain ⟨a2, e2, f2, _⟩ := DataW.trod_int Tryd.underlying3 g2
   obtain ⟨a3, e3, f3, _⟩ := DataW.trod_int Tryd.underlying3 g3
   obtain ⟨a4, e4, f4, _⟩ := DataW.trod_int Tryd.underlying3 g4
   simp at e0 e1 e2 e3 e4
   subst e0 e1 e2 e3 e4 f0 f1 f2 f3 f4
   simp [Rows.laid_hopper_txn_most] at hx
   obtain ⟨⟨r0, r1, r2, r3, r4⟩, _⟩ := hx
   subst r0 r1 r2 r3 r4
   have z0 := World.var?_cell hg hvar 0
   have z1 := World.var?_cell hg hvar 1
   have z2 := World.var?_cell hg hvar 2
   have z3 := World.var?_cell hg hvar 3
   have z4 := World.var?_cell hg hvar 4
   have hz : 0 < W.heap.size := by
    rcases Nat.eq_zero_or_pos W.heap.size with h0 | h0
    ·exfalso
     simp [World.cell?, Array.getElem?_eq_none (show W.heap.size ≤ 0 by omega)] at z0
    ·exact h0
   exact ⟨by simpa using z0, by simpa using z1, by simpa using z2, by simpa using z3, by simpa using z4, hz⟩
end Go.Proofs.YtofpmnkkimgkfaaDoor.txn
namespace Go.Proofs.YtofpmnkkimgkfaaDoor.lookMay
open Go.RowKit Sx txn queue greedy shard pool Go.Proofs.YtofpmnkkimgkfaaDoor.look
theorem rsmallB (s b : Int) (l : List Tx) (a : Option Addr) (n c : Nat) (w : World) (hs : Sl a n c) (hn : n = l.length) (hrow : At w (pt a n) (cellsL l)) :
  Calls Tryd.prog 7 (List.toArray [acc s b a n c]) w fun e w' => e = .returned (.bool (fewB l && decide ((n : Int) ≤ 30))) ∧ Below w.heap.size w w' := by
 refine calls_of_exec Sxk.env_ok.keeps.soon_ Tryd.func7 rfl [] (schedQ_ok _ _ (by kernel_rfl)) [rowF (pt a n) (cellsL l)] (at1 hrow) ?_
 conv=>arg 5;whnf
 refine meetc rfl (by kernel_rfl) (fun β ρ w' hM' => rfew l a n c 30 w' hs hn (hM'.at_ List.mem_cons_self)) ?_
 conv=>arg 5;whnf
 exact wp_back fun β ρ w' hM' => ⟨rfl, hM'.below⟩
theorem walk (C : Cf) (s b : Int) (a : Option Addr) (n c : Nat) (l : List Tx) (O : Oq) (w : World) (hM : Most w) (hC : True) (h : Sl a n c ∧ n = l.length ∧ At w (pt a n) (cellsL l) ∧ (∀ x ∈ l, Tx.fits x) ∧ Fits s ∧ Fits b) (hO : O.fits) :
  Calls Tryd.prog 4 (List.toArray [C.val, .agg #[.int .i64 s, .int .i64 b, .slice a n c], O.val]) w fun e w' => e = .returned (.bool true) ∧ Below w.heap.size w w' := by
 obtain ⟨hs, hn, hrow, hft, hfs, hfb⟩ := h
 subst hn
 have hd : ∀ x ∈ l, x.d.size ≤ maxLen := fun x hx => (hft x hx).2.2.2.2.2
 have FW := fun w' hr => rsmallB s b l a l.length c w' hs rfl hr
 generalize hfb1 : (fewB l && decide ((l.length : Int) ≤ 30)) = fb at *
 refine calls_of_exec Sxk.env_ok.keeps.soon_ Tryd.func4 rfl [(8, (line [0, 1, 2, 3, 4, 5, 6, 7, 9, 11, 12, 8, 10, 13, 14, 15, 16, 17, 18, 19, 20, 21, 22, 23, 24, 25, 26, 27, 28, 29, 30, 31, 32, 33, 34, 35], []))] (schedQ_ok _ _ (by kernel_rfl)) [rowF (pt a l.length) (cellsL l)] (at1 hrow) ?_
 conv=>arg 5;whnf
 refine meetc (f := 7) (v := .bool fb) rfl (by kernel_rfl) (fun β ρ w' hM' => FW w' (hM'.at_ (.head _))) ?_
 cases fb with
 | false =>
  conv=>arg 5;whnf
  refine meetc (f := 8) (v := .bool true) rfl (by kernel_rfl) (fun β ρ w' hM' => live w' (hM.later hM'.below)) ?_
  conv=>arg 5;whnf
  exact wp_back fun β ρ w' hM' => ⟨rfl, hM'.below⟩
 | true =>
  conv=>arg 5;whnf
  refine wp_g0 (fun h1 => ?_) (fun h1 => ?_)
  rotate_left
  ·(conv => arg 5; whnf)
   refine meetc (f := 8) (v := .bool true) rfl (by kernel_rfl) (fun β ρ w' hM' => live w' (hM.later hM'.below)) ?_
   conv=>arg 5;whnf
   exact wp_back fun β ρ w' hM' => ⟨rfl, hM'.below⟩
  have h2 : ¬ (500 : Int) < (O.d.size : Int) := of_decide_eq_false h1
  have hO2 : O.d.size ≤ 1000000 := by omega
  have hl30 : l.length ≤ 30 := by
   simp only [Bool.and_eq_true, decide_eq_true_eq] at hfb1
   omega
  have hl : l.length ≤ 1000000 := by omega
  have CK := fun w hM hr => rcheck_ s b C.per l a l.length c w hM hs rfl hr
  have hm := @look_may C.per C.bp (s, b, l) O
  have hsm := @look_same C.per C.bp (s, b, l) O
  have her := @look_err C.per C.bp (s, b, l) O
  have L1 := fun w hM hr => look.look C (s, b, l) a c O w hM hs hr hl hd hO2
  have hPl : (lookL C.per C.bp (s, b, l) O).l.length ≤ l.length + 1 := (lookL_r _ _ _ _).2.1
  have hPd : ∀ t ∈ (lookL C.per C.bp (s, b, l) O).l, t.d.size ≤ maxLen := lookL_d hd
  have S1 := fun w hr => rslots_ s b l a l.length c w hs rfl hr hd (by omega)
  have hb0 := slotsL_bd l
  generalize lookL C.per C.bp (s, b, l) O = P at *
  cases hck : checkV s b C.per l with
  | false =>
   rw [hck] at CK
   conv=>arg 5;whnf
   refine meetc (f := 20) (v := .bool false) rfl (by kernel_rfl) (fun β ρ w' hM' => CK w' (hM.later hM'.below) (hM'.at_ (.head _))) ?_
   conv=>arg 5;whnf
   refine meetc (f := 8) (v := .bool true) rfl (by kernel_rfl) (fun β ρ w' hM' => live w' (hM.later hM'.below)) ?_
   conv=>arg 5;whnf
   exact wp_back fun β ρ w' hM' => ⟨rfl, hM'.below⟩
  | true =>
   rw [hck] at CK
   conv=>arg 5;whnf
   refine meetc (f := 20) (v := .bool true) rfl (by kernel_rfl) (fun β ρ w' hM' => CK w' (hM.later hM'.below) (hM'.at_ (.head _))) ?_
   conv=>arg 5;whnf
   refine meetPl (f := 9) P [] (by simp) rfl (by kernel_rfl) (fun β ρ w' hM' => L1 w' (hM.later hM'.below) (hM'.at_ (.head _))) (fun x hx _ => ?_)
   conv=>arg 5;whnf
   refine wp_br (fun h3 => ?_) (fun h3 => ?_)
   ·have h4 : P.r.e ≠ 0 := by have : (!(P.r.e == 0)) = true := h3; simpa using this
    obtain ⟨e, _, rfl⟩ := her h4
    conv=>arg 5;whnf
    refine meetc (f := 21) (v := .bool true) rfl (by kernel_rfl) (fun β ρ w' hM' => rsame 0 0 [] x.a 0 x.c none 0 w' hx.1 rfl (hM'.at_ (.head _)) sl0 (fun g hg => by cases hg)) ?_
    conv=>arg 5;whnf
    refine meetc (f := 8) (v := .bool true) rfl (by kernel_rfl) (fun β ρ w' hM' => live w' (hM.later hM'.below)) ?_
    conv=>arg 5;whnf
    exact wp_back fun β ρ w' hM' => ⟨rfl, hM'.below⟩
   have h4 : P.r.e = 0 := by have : (!(P.r.e == 0)) = false := h3; simpa using this
   obtain ⟨ch, dl, Ps, Pb, Pl, Pev, Pr⟩ := P
   cases ch with
   | false =>
    obtain ⟨e1, e2⟩ := hsm h4 rfl
    have e1 : dl = 0 := e1
    have e2 : Pev = [] := e2
    subst e1 e2
    conv=>arg 5;whnf
    refine meetc (f := 8) (v := .bool true) rfl (by kernel_rfl) (fun β ρ w' hM' => live w' (hM.later hM'.below)) ?_
    conv=>arg 5;whnf
    exact wp_back fun β ρ w' hM' => ⟨rfl, hM'.below⟩
   | true =>
    obtain ⟨m1, m2, m3, m4⟩ := hm hck h4 rfl
    have m1 : checkV Ps Pb C.per Pl = true := m1
    have m2 : slotsL Pl = slotsL l + dl := m2
    have m3 : Ps = s := m3
    have m4 : b ≤ Pb := m4
    have hPl : Pl.length ≤ l.length + 1 := hPl
    have hPd : ∀ t ∈ Pl, t.d.size ≤ maxLen := hPd
    have hxa : Sl x.a Pl.length x.c := hx.1
    have K2 := fun w hM hr => rcheck_ Ps Pb C.per Pl x.a Pl.length x.c w hM hxa rfl hr
    rw [m1] at K2
    have S2 := fun w hr => rslots_ Ps Pb Pl x.a Pl.length x.c w hxa rfl hr hPd (by omega)
    have hb1 := slotsL_bd Pl
    rw [m2] at S2 hb1
    generalize slotsL l = sl at *
    conv=>arg 5;whnf
    refine meetc (f := 20) (v := .bool true) rfl (by kernel_rfl) (fun β ρ w' hM' => K2 w' (hM.later hM'.below) (hM'.at_ (.head _))) ?_
    conv=>arg 5;whnf
    refine meetc (f := 22) (v := .int .i64 (sl + dl)) rfl (by kernel_rfl) (fun β ρ w' hM' => S2 w' (hM'.at_ (.head _))) ?_
    conv=>arg 5;whnf
    refine meetc (f := 22) (v := .int .i64 sl) rfl (by kernel_rfl) (fun β ρ w' hM' => S1 w' (hM'.at_ (.tail _ (.tail _ (.tail _ (.head _)))))) ?_
    conv=>arg 5;whnf
    refine wp_must ⟨by show -9223372036854775808 ≤ sl + dl; omega, by show sl + dl ≤ 9223372036854775807; omega⟩ ?_
    conv=>arg 5;whnf
    refine wp_g1 (fun _ => ?_) (fun h => by simp at h)
    conv=>arg 5;whnf
    refine wp_g1 (fun _ => ?_) (fun h => by rw [m3] at h; simp at h)
    conv=>arg 5;whnf
    refine wp_g1 (fun _ => ?_) (fun h => by have := of_decide_eq_false h; exact absurd m4 this)
    conv=>arg 5;whnf
    refine meetc (f := 8) (v := .bool true) rfl (by kernel_rfl) (fun β ρ w' hM' => live w' (hM.later hM'.below)) ?_
    conv=>arg 5;whnf
    exact wp_back fun β ρ w' hM' => ⟨rfl, hM'.below⟩
end Go.Proofs.YtofpmnkkimgkfaaDoor.lookMay
namespace Go.Proofs.YtofpmnkkimgkfaaDoor.lookMay
open Go.ChangeShapes Go.WideShapes Go.ChangeAt Go.RowKit
open Go.ChangeMaps (open_string shut_string)
theorem own : ownKnob Tryd.prog.godebug = none := by kernel_rfl
theorem laidOut : laidOutB Tryd.prog = true := by kernel_rfl
noncomputable def laidWorld (os : Os) : World :=
 let w0 := World.holding Tryd.prog os ⟨#[], #[], []⟩
 { w0 with heap := w0.heap.modify 0 fun
   | .cells _ t frozen => .cells #[.int .i64 255, .int .i64 4294967295, .int .i64 1099511627776, .int .i64 1099511627776, .int .i64 1073741824] t frozen
   | o => o }
theorem laid_met (os : Os) (args : Array Value) : laidMet Tryd.prog Rows.lookMayRow.laid ((laidWorld os).forCall (fun _ _ => 0) ⟨#[], args, []⟩).memory :=
 laidMet_of_run (ps := [.cell 0 0, .cell 0 1, .cell 0 2, .cell 0 3, .cell 0 4]) 8 (by kernel_rfl) (by kernel_rfl) (by kernel_rfl)
theorem lifted (os : Os) (started : os.Started) (H : Type) (enc : TypeId × Value → H) :
  ReturnsInHanded {} Tryd.checked os 4 .any (fun w args => (Rows.lookMaySpec.pre enc Tryd.prog Tryd.f4 Rows.lookMayRow.domain false w args ∧ laidMet Tryd.prog Rows.lookMayRow.laid w) ∧ sizedMet enc Tryd.prog Tryd.f4 (OpenSpec.ofChange Rows.lookMaySpec) false w args) (Rows.lookMaySpec.post enc Tryd.prog Tryd.f4 false true false false) := by
 refine returnsInHanded_of_change_and (C := Tryd.checked) (X := fun w _ => laidMet Tryd.prog Rows.lookMayRow.laid w) (fun _ _ _ hh h => h.of_heap hh) own started (by kernel_rfl) Tryd.func4
  (ChangeSpec.witness_at (enc := enc) (C := Tryd.checked) (os := os) (X := fun w _ => laidMet Tryd.prog Rows.lookMayRow.laid w) false (laidWorld os) #[.agg #[.int .i64 0, .int .i64 0, .int .i64 0, .int .i64 0, .int .i64 0, .int .i64 0, .int .i64 0, .int .i64 0], .agg #[.int .i64 0, .int .i64 0, .slice none 0 0], .agg #[.int .i64 0, .int .i64 0, .int .i64 0, .int .i64 0, .string ByteArray.empty]] 8 rfl (by kernel_rfl) (by kernel_rfl) (by kernel_rfl) (by kernel_rfl) (by kernel_rfl) (laid_met os _)) ?_
 intro W base args ds gs before hval0 hW hcnd _ hL _
 have hval : ∀ (j : Nat) t v, Tryd.f4.params[j]? = some t → args[j]? = some v → Value.okWide Tryd.prog W .any base t v := hval0
 have hW' := hW
 obtain ⟨p, q, hA0, hV, rfl, hfz, hnd⟩ := hW
 have hA : DataW.TrodAll enc Tryd.prog W 0 (fun _ => true) true Tryd.f4.params.toList args.toList ds p := hA0
 rw [Tryd.params4] at hA hval
 obtain ⟨v0, vs0, d0, ds0, p0, q0, hargs, rfl, rfl, h0, r0⟩ := trodAll_cons hA
 obtain ⟨v1, vs1, d1, ds1, p1, q1, rfl, rfl, rfl, h1, r1⟩ := trodAll_cons r0
 obtain ⟨v2, vs2, d2, ds2, p2, q2, rfl, rfl, rfl, h2, r2⟩ := trodAll_cons r1
 obtain ⟨rfl, rfl, rfl⟩ := trodAll_nil r2
 obtain rfl : args = #[v0, v1, v2] := by cases args; simp_all
 obtain ⟨rfl, rfl⟩ := trodVars_none hV
 have k0 := h0
 have lt0 : ∀ x ∈ p0, x.block < W.heap.size := by obtain ⟨m, hm⟩ := k0; exact DataW.trod_lt m _ _ _ hm
 obtain ⟨C0, rfl, f0⟩ := pool.open_cfg (hval 0 23 v0 rfl rfl) h0
 have k1 := h1
 have lt1 : ∀ x ∈ p1, x.block < W.heap.size := by obtain ⟨m, hm⟩ := k1; exact DataW.trod_lt m _ _ _ hm
 obtain ⟨s1, b1, a1, n1, c1, l1, rfl, f1⟩ := queue.open_acc (hval 1 26 v1 rfl rfl) h1
 have k2 := h2
 have lt2 : ∀ x ∈ p2, x.block < W.heap.size := by obtain ⟨m, hm⟩ := k2; exact DataW.trod_lt m _ _ _ hm
 obtain ⟨O2, rfl, f2⟩ := pool.open_op (hval 2 28 v2 rfl rfl) h2
 clear hA0 hval0
 have hM : txn.Most W := txn.most_of_laid hL
 refine (walk C0 s1 b1 a1 n1 c1 l1 O2 W hM f0 f1 f2).mono fun e W' ⟨he, bel⟩ => ?_
 subst he
 exact ⟨_, rfl, _, _, _, [], _, [], hW', trodAll_mk1 (shut_bool Tryd.underlying4 _), (trodAll_cons_mk (Below.trod laidOut (by kernel_rfl) (of_decide_eq_true (by kernel_rfl)) k0 bel lt0) (trodAll_cons_mk (Below.trod laidOut (by kernel_rfl) (of_decide_eq_true (by kernel_rfl)) k1 bel lt1) (trodAll_cons_mk (Below.trod laidOut (by kernel_rfl) (of_decide_eq_true (by kernel_rfl)) k2 bel lt2) trodAll_mk0))), rfl, bel.frame _, fun h => by cases h⟩
theorem over : Rows.LookMaySaid :=
 OpenClaim.holds_of_wide 4 Tryd.f4 rfl rfl rfl rfl rfl rfl rfl ⟨rfl, rfl, rfl, rfl, rfl⟩ rfl rfl rfl rfl rfl (by kernel_rfl) Tryd.func4 (by kernel_rfl)
  (of_decide_eq_true (by kernel_rfl)) (by unfold Func.isWrapper; first | (rw [if_pos (by decide +kernel)]; kernel_rfl) | (rw [if_neg (by decide +kernel)]; exact ⟨rfl, rfl⟩))
  (fun os started H enc _ => lifted os started H enc)
theorem proved : Rows.LookMayCardSaid :=
 Claim7.holds_tied_plain_at .later [] [.data] true (true, "c691626c4052b3d883dc81980693dcab11890168e18de7be2f2f2ad56109042f") false
  over (fun _ h => by cases h) (by kernel_rfl) (fun _ h => by cases h) lookMay_row_tie rfl ⟨rfl, rfl⟩ (by kernel_rfl) rfl
  (fun f fn hf hfn => by
   obtain rfl : f = 4 := (Option.some.inj ((show Tryd.prog.funcNamed "hopper/hopperlaw15.LookMay" = some 4 by kernel_rfl).symm.trans hf)).symm
   obtain rfl : fn = Tryd.f4 := (Option.some.inj (Tryd.func4.symm.trans hfn)).symm
   exact ⟨by kernel_rfl, fun j t ht => by
    rw [Tryd.params4] at ht
    match j, ht with
    | 0, ht =>
     obtain rfl : t = 23 := by simpa using ht.symm
     exact (show Tryd.prog.wantsStandIn 23 = false by kernel_rfl)
    | 1, ht =>
     obtain rfl : t = 26 := by simpa using ht.symm
     exact (show Tryd.prog.wantsStandIn 26 = false by kernel_rfl)
    | 2, ht =>
     obtain rfl : t = 28 := by simpa using ht.symm
     exact (show Tryd.prog.wantsStandIn 28 = false by kernel_rfl)
    | j + 3, ht => simp at ht⟩)
  (by kernel_rfl)
#print axioms proved
end Go.Proofs.YtofpmnkkimgkfaaDoor.lookMay
