/- hopper/hopperlaw12.GreedyGas answers true at every input, and every argument reads behind the call as it read before; hopper/txn.most holds what the program's text lays there: the card ties it. No other condition. -/
import Derived.Test.YtohikebnlamnnaaDoorRows
import Derived.Test.YtohikebnlamnnaaDoorTxn
import Derived.OpenShut
import Derived.ChangeOld
import Derived.LaidLaws
import Derived.Test.YtohikebnlamnnaaDoorGreedyQ
import Derived.Test.YtohikebnlamnnaaDoorCards
import Derived.Test.YtohikebnlamnnaaDoorTie
import Derived.Test.YtohikebnlamnnaaDoorGreedyAll
import Derived.WalkKit
import Derived.ProofKit
import Derived.ShutString
import Derived.Below
import Derived.Handed
import Derived.SevenTiedAt
namespace Go.Proofs.YtohikebnlamnnaaDoor.txn
open Go.RowKit Go.ChangeShapes Go.WideShapes
set_option linter.unusedVariables false

set_option maxRecDepth 100000 in
/-- From what is laid to the cells that Check reads. -/
theorem most_of_laid {W : World} (h : laidMet Tryd.prog [("hopper/txn.most", Rows.laid_hopper_txn_most)] W) : Most W := by
  obtain ⟨ps, ⟨g, t, cs, fuel, p, q, hg, ht, hvar, hd, _, _⟩, _⟩ := h
  obtain rfl := Option.some.inj ((show Tryd.prog.globalNamed "hopper/txn.most" = some 0 by kernel_rfl).symm.trans hg)
  obtain rfl := Option.some.inj ((show (Tryd.prog.globals[0]?).map (·.type) = some 135 by kernel_rfl).symm.trans ht)
  obtain ⟨xs, m, _, hx, hlen, hn, hi⟩ := DataW.trod_array Tryd.underlying135 hd
  have h5 : cs.toList.length = 5 := hlen.trans (by kernel_rfl)
  obtain ⟨l⟩ := cs
  match l, h5 with
  | [c0, c1, c2, c3, c4], _ =>
    match xs, hn with
    | [y0, y1, y2, y3, y4], _ =>
      have k3 : Tryd.prog.cellsOf 3 = 1 := by kernel_rfl
      have g0 := hi 0 (by omega)
      have g1 := hi 1 (by omega)
      have g2 := hi 2 (by omega)
      have g3 := hi 3 (by omega)
      have g4 := hi 4 (by omega)
      simp [k3] at g0 g1 g2 g3 g4
      obtain ⟨a0, e0, f0, _⟩ := DataW.trod_int Tryd.underlying3 g0
      obtain ⟨a1, e1, f1, _⟩ := DataW.trod_int Tryd.underlying3 g1
      obtain ⟨a2, e2, f2, _⟩ := DataW.trod_int Tryd.underlying3 g2
      obtain ⟨a3, e3, f3, _⟩ := DataW.trod_int Tryd.underlying3 g3
      obtain ⟨a4, e4, f4, _⟩ := DataW.trod_int Tryd.underlying3 g4
      simp at e0 e1 e2 e3 e4
      subst e0 e1 e2 e3 e4 f0 f1 f2 f3 f4
      simp [Rows.laid_hopper_txn_most] at hx
      obtain ⟨⟨r0, r1, r2, r3, r4⟩, _⟩ := hx
      subst r0 r1 r2 r3 r4
      have z0 := World.var?_cell hg hvar 0
      have z1 := World.var?_cell hg hvar 1
      have z2 := World.var?_cell hg hvar 2
      have z3 := World.var?_cell hg hvar 3
      have z4 := World.var?_cell hg hvar 4
      have hz : 0 < W.heap.size := by
        rcases Nat.eq_zero_or_pos W.heap.size with h0 | h0
        · exfalso
          simp [World.cell?, Array.getElem?_eq_none (show W.heap.size ≤ 0 by omega)] at z0
        · exact h0
      exact ⟨by simpa using z0, by simpa using z1, by simpa using z2, by simpa using z3, by simpa using z4, hz⟩
end Go.Proofs.YtohikebnlamnnaaDoor.txn
namespace Go.Proofs.YtohikebnlamnnaaDoor.greedyGas
open Go.RowKit Sx txn queue greedy
set_option linter.unusedVariables false
set_option linter.unusedSimpArgs false
set_option maxHeartbeats 4000000 in
set_option maxRecDepth 100000 in
theorem walk (a : Option Addr) (n c : Nat) (L : List Ac) (gas : Int) (w : World) (hM : Most w) (hI : AccsIn w a n c L) (hgas : Fits gas) :
    Calls Tryd.prog 10 (List.toArray [.slice a n c, .int .i64 gas]) w fun e w' => e = .returned (.bool true) ∧ Below w.heap.size w w' := by
  have hG : -9223372036854775808 ≤ gas ∧ gas ≤ 9223372036854775807 := by unfold Fits at hgas; omega
  refine calls_of_exec env_ok.keeps Tryd.func10 rfl [] (schedQ_ok _ _ (by kernel_rfl)) (acsF a n L) hI.facts ?_
  have FW := fun w' (hM' : AccsIn w' a n c L) => fewW L 20 a n c w' hM'
  generalize hfb : (fewA L && decide ((n : Int) ≤ 20)) = fb at *
  (conv => arg 5; whnf)
  refine meetc (f := 12) (v := .bool fb) rfl (by kernel_rfl) (fun β ρ w' hM' => FW w' (hI.mem hM' fun φ hφ => hφ)) ?_
  cases fb with
  | false =>
    (conv => arg 5; whnf)
    refine meetc (f := 30) (v := .bool true) rfl (by kernel_rfl) (fun β ρ w' hM' => live w' (hM.later hM'.below)) ?_
    (conv => arg 5; whnf)
    exact wp_back fun β ρ w' hM' => ⟨rfl, hM'.below⟩
  | true =>
    simp only [Bool.and_eq_true, decide_eq_true_eq] at hfb
    obtain ⟨hA, hx20⟩ := hI.few hfb.1
    have hs := hI.1
    have hn := hI.2.1
    have hn20 : n ≤ 20 := by omega
    have hTl : (templateV L gas).length ≤ 400 := tpl_le hx20 (by omega) gas
    by_cases hneg : gas < 0
    · (conv => arg 5; whnf)
      refine wp_g0 (fun h2 => by have h3 := of_decide_eq_false (show decide (gas < 0) = false from h2); omega) (fun h2 => ?_)
      (conv => arg 5; whnf)
      refine meetc (f := 30) (v := .bool true) rfl (by kernel_rfl) (fun β ρ w' hM' => live w' (hM.later hM'.below)) ?_
      (conv => arg 5; whnf)
      exact wp_back fun β ρ w' hM' => ⟨rfl, hM'.below⟩
    · (conv => arg 5; whnf)
      refine wp_g0 (fun h2 => ?_) (fun h2 => by have h3 := of_decide_eq_true (show decide (gas < 0) = true from h2); omega)
      (conv => arg 5; whnf)
      refine wp_br (fun h3 => ?_) (fun h3 => ?_)
      · (conv => arg 5; whnf)
        refine meetc (f := 30) (v := .bool true) rfl (by kernel_rfl) (fun β ρ w' hM' => live w' (hM.later hM'.below)) ?_
        (conv => arg 5; whnf)
        exact wp_back fun β ρ w' hM' => ⟨rfl, hM'.below⟩
      · skip
        (conv => arg 5; whnf)
        refine loop_rule env_ok.keeps [] (schedQ_ok _ _ (by kernel_rfl)) (fun k : Nat => k ≤ n) (fun k => (⟨[], [], acsF a n L⟩, [.v (.slice a n c), .v (.int .i64 gas), .any, .any, .any, .v (.int .i64 k), .any, .any, .any, .any, .any, .any, .any, .any, .any, .any, .any, .any, .any, .any, .any, .any, .any, .any, .any, .any, .any, .any, .any, .any, .any, .any, .any, .any, .any, .any, .any, .any, .any, .any, .any, .any, .any, .any, .any, .any, .any, .any, .any, .any, .any, .any, .any, .any, .any, .any, .any, .any, .any, .any, .any, .any, .any, .any, .any, .any, .any, .any, .any])) (fun k => n - k) 0 (Nat.zero_le _) ⟨by repeat' first | exact trivial | refine ⟨.inl rfl, ?_⟩ | refine ⟨.inr rfl, ?_⟩, ⟨by repeat' first | exact trivial | refine ⟨.inl rfl, ?_⟩ | refine ⟨.inr rfl, ?_⟩, by repeat' first | exact trivial | refine ⟨.inl rfl, ?_⟩ | refine ⟨.inr rfl, ?_⟩, fun _ h => h⟩, rfl⟩ ?_
        intro k hk
        (conv => arg 5; whnf)
        refine wp_br (fun h1 => ?_) (fun h1 => ?_)
        · have hlt : k < n := by have h3 := of_decide_eq_true (show decide ((k : Int) < (n : Int)) = true from h1); omega
          obtain ⟨x, hx⟩ : ∃ x, L[k]? = some x := ⟨_, List.getElem?_eq_getElem (by omega)⟩
          have hxm : x ∈ L := List.mem_of_getElem? hx
          obtain ⟨⟨xs, xn, xl, xd⟩, _⟩ := hA.2.2.2 x hxm
          have CK := fun w hM hr => rcheck_ x.s x.b 16 x.l x.a x.n x.c w hM xs xn hr
          generalize checkV x.s x.b 16 x.l = ck at *
          (conv => arg 5; whnf)
          refine wp_must ⟨by omega, by show (k : Int) < (n : Int); omega, hs.some hlt⟩ ?_
          (conv => arg 5; whnf)
          refine readS (vs := x.cs) (sz := 3) (k := k) rfl rfl (.head _) hlt (hs.some hlt) (cellsA_at hx) rfl ?_
          (conv => arg 5; whnf)
          refine meetc (f := 39) (v := .bool ck) rfl (by kernel_rfl) (fun β ρ w' hM' => CK w' (hM.later hM'.below) (hM'.at_ (.tail _ (List.mem_map.2 ⟨x, hxm, rfl⟩)))) ?_
          cases ck with
          | false =>
            (conv => arg 5; whnf)
            refine meetc (f := 30) (v := .bool true) rfl (by kernel_rfl) (fun β ρ w' hM' => live w' (hM.later hM'.below)) ?_
            (conv => arg 5; whnf)
            exact wp_back fun β ρ w' hM' => ⟨rfl, hM'.below⟩
          | true =>
            (conv => arg 5; whnf)
            refine wp_must ⟨by show -9223372036854775808 ≤ (k : Int) + 1; omega, by show (k : Int) + 1 ≤ 9223372036854775807; omega⟩ ?_
            (conv => arg 5; whnf)
            refine wp_end ⟨k + 1, hlt, ⟨by repeat' first | exact trivial | refine ⟨.inl rfl, ?_⟩ | refine ⟨.inr rfl, ?_⟩, ⟨by repeat' first | exact trivial | refine ⟨.inl rfl, ?_⟩ | refine ⟨.inr rfl, ?_⟩, by repeat' first | exact trivial | refine ⟨.inl rfl, ?_⟩ | refine ⟨.inr rfl, ?_⟩, fun _ h => h⟩, rfl⟩, by show n - (k + 1) < n - k; omega⟩
        · clear h1 hk
          have hTg := tpl_gas ((firstsV L).map fun x => lineV x.b x.l) gas (by omega)
          have hsum : totG (templateV L gas) ≤ gas := totG_le (by omega) hTg
          have P1 := fun w hM hA => template L gas a n c w hM hA (by omega) hG (by omega)
          have P0 := fun w hM hA => template L 0 a n c w hM hA (by omega) (by omega) (by rw [tmpl_none]; decide)
          rw [tmpl_none] at P0
          generalize templateV L gas = pv at *
          have T1 := fun u cu w hs hr => totals pv u pv.length cu w hs rfl hr (by omega)
          have T0 := fun w => totL [] 0 0 none 0 0 w ⟨Nat.le_refl _, Nat.zero_le _, fun _ => ⟨rfl, rfl⟩⟩ rfl (fun g hg => by cases hg) (by decide) (by kernel_rfl) (by kernel_rfl)
          generalize totT pv = t1 at *
          generalize totG pv = t2 at *
          (conv => arg 5; whnf)
          refine meet1F (f := 35) (n := pv.length) (v := fun a1 c1 => .slice a1 pv.length c1) (xs := cellsL pv) rfl (by kernel_rfl) (fun β ρ w' hM' => P1 w' (hM.later hM'.below) (Mem.acs hA hM' fun φ hφ => hφ)) (fun p c_p h_p f_p => ?_)
          (conv => arg 5; whnf)
          refine meetc (f := 31) (v := .tuple #[.int .i64 t1, .int .i64 t2]) rfl (by kernel_rfl) (fun β ρ w' hM' => T1 p c_p w' h_p (hM'.at_ (.head _))) ?_
          (conv => arg 5; whnf)
          refine meetc (f := 31) (v := .tuple #[.int .i64 0, .int .i64 0]) rfl (by kernel_rfl) (fun β ρ w' hM' => T0 w') ?_
          (conv => arg 5; whnf)
          refine meet1F (f := 35) (n := 0) (v := fun a1 c1 => .slice a1 0 c1) (xs := cellsL []) rfl (by kernel_rfl) (fun β ρ w' hM' => P0 w' (hM.later hM'.below) (Mem.acs hA hM' fun φ hφ => .tail _ (hφ))) (fun q c_q h_q f_q => ?_)
          (conv => arg 5; whnf)
          refine wp_g1 (fun h4 => ?_) (fun h4 => by have h5 := of_decide_eq_false (show decide (t2 ≤ gas) = false from h4); omega)
          (conv => arg 5; whnf)
          refine wp_g1 (fun h4 => ?_) (fun h4 => by have h5 := of_decide_eq_false (show decide ((pv.length : Int) ≤ 1000) = false from h4); omega)
          (conv => arg 5; whnf)
          refine meetc (f := 30) (v := .bool true) rfl (by kernel_rfl) (fun β ρ w' hM' => live w' (hM.later hM'.below)) ?_
          (conv => arg 5; whnf)
          exact wp_back fun β ρ w' hM' => ⟨rfl, hM'.below⟩
end Go.Proofs.YtohikebnlamnnaaDoor.greedyGas
namespace Go.Proofs.YtohikebnlamnnaaDoor.greedyGas
open Go.ChangeShapes Go.WideShapes Go.ChangeAt Go.RowKit
open Go.ChangeMaps (open_string shut_string)
set_option linter.unusedVariables false

theorem own : ownKnob Tryd.prog.godebug = none := by kernel_rfl
theorem laidOut : laidOutB Tryd.prog = true := by kernel_rfl

/-- A world in which the list of bounds lies as it was laid. -/
noncomputable def laidWorld (os : Os) : World :=
  let w0 := World.holding Tryd.prog os ⟨#[], #[], []⟩
  { w0 with heap := w0.heap.modify 0 fun
      | .cells _ t frozen => .cells #[.int .i64 255, .int .i64 4294967295, .int .i64 1099511627776, .int .i64 1099511627776, .int .i64 1073741824] t frozen
      | o => o }
theorem laid_met (os : Os) (args : Array Value) : laidMet Tryd.prog Rows.greedyGasRow.laid ((laidWorld os).forCall (fun _ _ => 0) ⟨#[], args, []⟩).memory :=
  laidMet_of_run (ps := [.cell 0 0, .cell 0 1, .cell 0 2, .cell 0 3, .cell 0 4]) 8 (by kernel_rfl) (by kernel_rfl) (by kernel_rfl)

set_option maxRecDepth 100000 in
theorem lifted (os : Os) (started : os.Started) (H : Type) (enc : TypeId × Value → H) :
    ReturnsInHanded {} Tryd.checked os 10 .any (fun w args => (Rows.greedyGasSpec.pre enc Tryd.prog Tryd.f10 Rows.greedyGasRow.domain false w args ∧ laidMet Tryd.prog Rows.greedyGasRow.laid w) ∧ sizedMet enc Tryd.prog Tryd.f10 (OpenSpec.ofChange Rows.greedyGasSpec) false w args) (Rows.greedyGasSpec.post enc Tryd.prog Tryd.f10 false true false false) := by
  refine returnsInHanded_of_change_and (C := Tryd.checked) (X := fun w _ => laidMet Tryd.prog Rows.greedyGasRow.laid w) (fun _ _ _ hh h => h.of_heap hh) own started (by kernel_rfl) Tryd.func10
    (ChangeSpec.witness_at (enc := enc) (C := Tryd.checked) (os := os) (X := fun w _ => laidMet Tryd.prog Rows.greedyGasRow.laid w) false (laidWorld os) #[.slice none 0 0, .int .i64 0] 8 rfl (by kernel_rfl) (by kernel_rfl) (by kernel_rfl) (by kernel_rfl) (by kernel_rfl) (laid_met os _)) ?_
  intro W base args ds gs before hval0 hW hcnd _ hL _
  have hval : ∀ (j : Nat) t v, Tryd.f10.params[j]? = some t → args[j]? = some v → Value.okWide Tryd.prog W .any base t v := hval0
  have hW' := hW
  obtain ⟨p, q, hA0, hV, rfl, hfz, hnd⟩ := hW
  have hA : DataW.TrodAll enc Tryd.prog W 0 (fun _ => true) true Tryd.f10.params.toList args.toList ds p := hA0
  rw [Tryd.params10] at hA hval
  obtain ⟨v0, vs0, d0, ds0, p0, q0, hargs, rfl, rfl, h0, r0⟩ := trodAll_cons hA
  obtain ⟨v1, vs1, d1, ds1, p1, q1, rfl, rfl, rfl, h1, r1⟩ := trodAll_cons r0
  obtain ⟨rfl, rfl, rfl⟩ := trodAll_nil r1
  obtain rfl : args = #[v0, v1] := by cases args; simp_all
  obtain ⟨rfl, rfl⟩ := trodVars_none hV
  have k0 := h0
  have lt0 : ∀ x ∈ p0, x.block < W.heap.size := by obtain ⟨m, hm⟩ := k0; exact DataW.trod_lt m _ _ _ hm
  obtain ⟨a0, n0, c0, l0, rfl, f0⟩ := greedy.open_accs (hval 0 24 v0 rfl rfl) h0
  have k1 := h1
  have lt1 : ∀ x ∈ p1, x.block < W.heap.size := by obtain ⟨m, hm⟩ := k1; exact DataW.trod_lt m _ _ _ hm
  obtain ⟨z1, rfl, f1⟩ := queue.open_fit (hval 1 3 v1 rfl rfl) h1
  clear hA0 hval0
  have hM : txn.Most W := txn.most_of_laid hL
  refine (walk a0 n0 c0 l0 z1 W hM f0 f1).mono fun e W' ⟨he, bel⟩ => ?_
  subst he
  exact ⟨_, rfl, _, _, _, [], _, [], hW', trodAll_mk1 (shut_bool Tryd.underlying4 _), (trodAll_cons_mk (Below.trod laidOut (by kernel_rfl) (of_decide_eq_true (by kernel_rfl)) k0 bel lt0) (trodAll_cons_mk (Below.trod laidOut (by kernel_rfl) (of_decide_eq_true (by kernel_rfl)) k1 bel lt1) trodAll_mk0)), rfl, bel.frame _, fun h => by cases h⟩

theorem over : Rows.GreedyGasSaid :=
  OpenClaim.holds_of_wide 10 Tryd.f10 rfl rfl rfl rfl rfl rfl rfl ⟨rfl, rfl, rfl, rfl, rfl⟩ rfl rfl rfl rfl rfl (by kernel_rfl) Tryd.func10 (by kernel_rfl)
    (of_decide_eq_true (by kernel_rfl)) (by unfold Func.isWrapper; first | (rw [if_pos (by decide +kernel)]; kernel_rfl) | (rw [if_neg (by decide +kernel)]; exact ⟨rfl, rfl⟩))
    (fun os started H enc _ => lifted os started H enc)

/-- THE STATEMENT. -/
theorem proved : Rows.GreedyGasCardSaid :=
  Claim7.holds_tied_plain_at .later [] [.data] true (true, "720f6701ae90a052211e6470d7d286ec70df9faa60d1833d35a594b593cda112") false
    over (fun _ h => by cases h) (by kernel_rfl) (fun _ h => by cases h) greedyGas_row_tie rfl ⟨rfl, rfl⟩ (by kernel_rfl) rfl
    (fun f fn hf hfn => by
      obtain rfl : f = 10 := (Option.some.inj ((show Tryd.prog.funcNamed "hopper/hopperlaw12.GreedyGas" = some 10 by kernel_rfl).symm.trans hf)).symm
      obtain rfl : fn = Tryd.f10 := (Option.some.inj (Tryd.func10.symm.trans hfn)).symm
      exact ⟨by kernel_rfl, fun j t ht => by
        rw [Tryd.params10] at ht
        match j, ht with
        | 0, ht =>
          obtain rfl : t = 24 := by simpa using ht.symm
          exact (show Tryd.prog.wantsStandIn 24 = false by kernel_rfl)
        | 1, ht =>
          obtain rfl : t = 3 := by simpa using ht.symm
          exact (show Tryd.prog.wantsStandIn 3 = false by kernel_rfl)
        | j + 2, ht => simp at ht⟩)
    (by kernel_rfl)
#print axioms proved
end Go.Proofs.YtohikebnlamnnaaDoor.greedyGas
