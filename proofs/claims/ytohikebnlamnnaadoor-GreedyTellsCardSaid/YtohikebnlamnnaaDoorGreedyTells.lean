/- hopper/hopperlaw12.GreedyTells answers true at every input, and every argument reads behind the call as it read before; hopper/txn.most holds what the program's text lays there: the card ties it. No other condition. -/
import Derived.Test.YtohikebnlamnnaaDoorRows
import Derived.Test.YtohikebnlamnnaaDoorTxn
import Derived.OpenShut
import Derived.ChangeOld
import Derived.LaidLaws
import Derived.Test.YtohikebnlamnnaaDoorGreedyAll
import Derived.Test.YtohikebnlamnnaaDoorCards
import Derived.Test.YtohikebnlamnnaaDoorTie
import Derived.WalkKit
import Derived.ProofKit
import Derived.ShutString
import Derived.Below
import Derived.Handed
import Derived.SevenTiedAt
namespace Go.Proofs.YtohikebnlamnnaaDoor.txn
open Go.RowKit Go.ChangeShapes Go.WideShapes
set_option linter.unusedVariables false

set_option maxRecDepth 100000 in
/-- From what is laid to the cells that Check reads. -/
theorem most_of_laid {W : World} (h : laidMet Tryd.prog [("hopper/txn.most", Rows.laid_hopper_txn_most)] W) : Most W := by
  obtain ⟨ps, ⟨g, t, cs, fuel, p, q, hg, ht, hvar, hd, _, _⟩, _⟩ := h
  obtain rfl := Option.some.inj ((show Tryd.prog.globalNamed "hopper/txn.most" = some 0 by kernel_rfl).symm.trans hg)
  obtain rfl := Option.some.inj ((show (Tryd.prog.globals[0]?).map (·.type) = some 135 by kernel_rfl).symm.trans ht)
  obtain ⟨xs, m, _, hx, hlen, hn, hi⟩ := DataW.trod_array Tryd.underlying135 hd
  have h5 : cs.toList.length = 5 := hlen.trans (by kernel_rfl)
  obtain ⟨l⟩ := cs
  match l, h5 with
  | [c0, c1, c2, c3, c4], _ =>
    match xs, hn with
    | [y0, y1, y2, y3, y4], _ =>
      have k3 : Tryd.prog.cellsOf 3 = 1 := by kernel_rfl
      have g0 := hi 0 (by omega)
      have g1 := hi 1 (by omega)
      have g2 := hi 2 (by omega)
      have g3 := hi 3 (by omega)
      have g4 := hi 4 (by omega)
      simp [k3] at g0 g1 g2 g3 g4
      obtain ⟨a0, e0, f0, _⟩ := DataW.trod_int Tryd.underlying3 g0
      obtain ⟨a1, e1, f1, _⟩ := DataW.trod_int Tryd.underlying3 g1
      obtain ⟨a2, e2, f2, _⟩ := DataW.trod_int Tryd.underlying3 g2
      obtain ⟨a3, e3, f3, _⟩ := DataW.trod_int Tryd.underlying3 g3
      obtain ⟨a4, e4, f4, _⟩ := DataW.trod_int Tryd.underlying3 g4
      simp at e0 e1 e2 e3 e4
      subst e0 e1 e2 e3 e4 f0 f1 f2 f3 f4
      simp [Rows.laid_hopper_txn_most] at hx
      obtain ⟨⟨r0, r1, r2, r3, r4⟩, _⟩ := hx
      subst r0 r1 r2 r3 r4
      have z0 := World.var?_cell hg hvar 0
      have z1 := World.var?_cell hg hvar 1
      have z2 := World.var?_cell hg hvar 2
      have z3 := World.var?_cell hg hvar 3
      have z4 := World.var?_cell hg hvar 4
      have hz : 0 < W.heap.size := by
        rcases Nat.eq_zero_or_pos W.heap.size with h0 | h0
        · exfalso
          simp [World.cell?, Array.getElem?_eq_none (show W.heap.size ≤ 0 by omega)] at z0
        · exact h0
      exact ⟨by simpa using z0, by simpa using z1, by simpa using z2, by simpa using z3, by simpa using z4, hz⟩
end Go.Proofs.YtohikebnlamnnaaDoor.txn
namespace Go.Proofs.YtohikebnlamnnaaDoor.greedyTells
open Go.RowKit Sx txn queue greedy
set_option linter.unusedVariables false
set_option linter.unusedSimpArgs false
set_option maxHeartbeats 4000000 in
set_option maxRecDepth 100000 in
theorem walk (a : Option Addr) (n c : Nat) (L : List Ac) (gas : Int) (b : Option Addr) (nt ct : Nat) (tl : List Tx) (w : World) (hM : Most w) (hI : AccsIn w a n c L) (hgas : Fits gas) (hT : Sl b nt ct ∧ nt = tl.length ∧ At w (pt b nt) (cellsL tl) ∧ ∀ x ∈ tl, Tx.fits x) :
    Calls Tryd.prog 7 (List.toArray [.slice a n c, .int .i64 gas, .slice b nt ct]) w fun e w' => e = .returned (.bool true) ∧ Below w.heap.size w w' := by
  obtain ⟨hsT, hnT, hrowT, hfT⟩ := hT
  have hG : -9223372036854775808 ≤ gas ∧ gas ≤ 9223372036854775807 := by unfold Fits at hgas; omega
  refine calls_of_exec env_ok.keeps Tryd.func7 rfl [] (schedQ_ok _ _ (by kernel_rfl)) (rowF (pt b nt) (cellsL tl) :: acsF a n L) (fun φ hφ g hg => (List.mem_cons.1 hφ).elim (fun e => by subst e; exact hrowT g hg) fun hφ => hI.facts φ hφ g hg) ?_
  have FW := fun w' (hM' : AccsIn w' a n c L) => fewW L 20 a n c w' hM'
  generalize hfb : (fewA L && decide ((n : Int) ≤ 20)) = fb at *
  (conv => arg 5; whnf)
  refine meetc (f := 12) (v := .bool fb) rfl (by kernel_rfl) (fun β ρ w' hM' => FW w' (hI.mem hM' fun φ hφ => .tail _ hφ)) ?_
  cases fb with
  | false =>
    (conv => arg 5; whnf)
    refine meetc (f := 30) (v := .bool true) rfl (by kernel_rfl) (fun β ρ w' hM' => live w' (hM.later hM'.below)) ?_
    (conv => arg 5; whnf)
    exact wp_back fun β ρ w' hM' => ⟨rfl, hM'.below⟩
  | true =>
    simp only [Bool.and_eq_true, decide_eq_true_eq] at hfb
    obtain ⟨hA, hx20⟩ := hI.few hfb.1
    have hn := hI.2.1
    have hn20 : n ≤ 20 := by omega
    have hTl : (templateV L gas).length ≤ 400 := tpl_le hx20 (by omega) gas
    have F4 := fun w hr => rfew tl b nt ct 60 w hsT hnT hr
    generalize hf4 : (fewB tl && decide ((nt : Int) ≤ 60)) = fb at *
    (conv => arg 5; whnf)
    refine meetc (f := 29) (v := .bool fb) rfl (by kernel_rfl) (fun β ρ w' hM' => F4 w' (hM'.at_ (.head _))) ?_
    cases fb with
    | false =>
      (conv => arg 5; whnf)
      refine meetc (f := 30) (v := .bool true) rfl (by kernel_rfl) (fun β ρ w' hM' => live w' (hM.later hM'.below)) ?_
      (conv => arg 5; whnf)
      exact wp_back fun β ρ w' hM' => ⟨rfl, hM'.below⟩
    | true =>
      simp only [Bool.and_eq_true, decide_eq_true_eq] at hf4
      have hnt : nt ≤ 60 := by omega
      have T1 := fun w hr => totals tl b nt ct w hsT hnT hr (by omega)
      have T2 := fun w hr => rtotals tl b nt ct w hsT hnT hr (by omega)
      have H1 := fun w hM hA => heads L a n c w hM hA (by omega)
      have H2 := fun w hM hA => rheads L a n c w hM hA (by omega)
      have P1 := fun w hM hA => template L gas a n c w hM hA (by omega) hG (by omega)
      have P2 := fun w hM hA => rtemplate L gas a n c w hM hA (by omega) hG (by omega)
      have O1 := fun w hM hA hr => follows L tl a n c b nt ct w hM hA (by omega) hsT hnT hr
      have O2 := fun w hM hA hr => rfollows L tl a n c b nt ct w hM hA (by omega) hsT hnT hr (by omega)
      generalize totT tl = t1 at *
      generalize totG tl = t2 at *
      generalize headsV L = hv at *
      generalize templateV L gas = pv at *
      generalize followsV L tl = ov at *
      (conv => arg 5; whnf)
      refine meetc (f := 31) (v := .tuple #[.int .i64 t1, .int .i64 t2]) rfl (by kernel_rfl) (fun β ρ w' hM' => T1 w' (hM'.at_ (.head _))) ?_
      (conv => arg 5; whnf)
      refine meetc (f := 32) (v := .tuple #[.int .i64 t1, .int .i64 t2]) rfl (by kernel_rfl) (fun β ρ w' hM' => T2 w' (hM'.at_ (.head _))) ?_
      (conv => arg 5; whnf)
      refine meet1F (f := 33) (n := hv.length) (v := fun a1 c1 => .slice a1 hv.length c1) (xs := cellsL hv) rfl (by kernel_rfl) (fun β ρ w' hM' => H1 w' (hM.later hM'.below) (Mem.acs hA hM' fun φ hφ => .tail _ hφ)) (fun p c_p h_p f_p => ?_)
      (conv => arg 5; whnf)
      refine meet1F (f := 34) (n := hv.length) (v := fun a1 c1 => .slice a1 hv.length c1) (xs := cellsL hv) rfl (by kernel_rfl) (fun β ρ w' hM' => H2 w' (hM.later hM'.below) (Mem.acs hA hM' fun φ hφ => .tail _ (.tail _ hφ))) (fun q c_q h_q f_q => ?_)
      (conv => arg 5; whnf)
      refine meetc (f := 20) (v := .bool true) rfl (by kernel_rfl) (fun β ρ w' hM' => rtxs hv p hv.length c_p q c_q w' h_p rfl (hM'.at_ (.tail _ (.head _))) h_q (hM'.at_ (.head _))) ?_
      (conv => arg 5; whnf)
      refine meet1F (f := 35) (n := pv.length) (v := fun a1 c1 => .slice a1 pv.length c1) (xs := cellsL pv) rfl (by kernel_rfl) (fun β ρ w' hM' => P1 w' (hM.later hM'.below) (Mem.acs hA hM' fun φ hφ => .tail _ (.tail _ (.tail _ hφ)))) (fun u c_u h_u f_u => ?_)
      (conv => arg 5; whnf)
      refine meet1F (f := 36) (n := pv.length) (v := fun a1 c1 => .slice a1 pv.length c1) (xs := cellsL pv) rfl (by kernel_rfl) (fun β ρ w' hM' => P2 w' (hM.later hM'.below) (Mem.acs hA hM' fun φ hφ => .tail _ (.tail _ (.tail _ (.tail _ hφ))))) (fun v c_v h_v f_v => ?_)
      (conv => arg 5; whnf)
      refine meetc (f := 20) (v := .bool true) rfl (by kernel_rfl) (fun β ρ w' hM' => rtxs pv u pv.length c_u v c_v w' h_u rfl (hM'.at_ (.tail _ (.head _))) h_v (hM'.at_ (.head _))) ?_
      (conv => arg 5; whnf)
      refine wp_g1 (fun _ => ?_) (fun h => by simp at h)
      (conv => arg 5; whnf)
      refine wp_g1 (fun _ => ?_) (fun h => by simp at h)
      (conv => arg 5; whnf)
      refine meetc (f := 37) (v := .bool ov) rfl (by kernel_rfl) (fun β ρ w' hM' => O1 w' (hM.later hM'.below) (Mem.acs hA hM' fun φ hφ => .tail _ (.tail _ (.tail _ (.tail _ (.tail _ hφ))))) (hM'.at_ (.tail _ (.tail _ (.tail _ (.tail _ (.head _))))))) ?_
      (conv => arg 5; whnf)
      refine meetc (f := 38) (v := .bool ov) rfl (by kernel_rfl) (fun β ρ w' hM' => O2 w' (hM.later hM'.below) (Mem.acs hA hM' fun φ hφ => .tail _ (.tail _ (.tail _ (.tail _ (.tail _ hφ))))) (hM'.at_ (.tail _ (.tail _ (.tail _ (.tail _ (.head _))))))) ?_
      (conv => arg 5; whnf)
      refine wp_prim (.bool true) (fun w => by cases ov <;> rfl) ?_
      (conv => arg 5; whnf)
      refine meetc (f := 30) (v := .bool true) rfl (by kernel_rfl) (fun β ρ w' hM' => live w' (hM.later hM'.below)) ?_
      (conv => arg 5; whnf)
      exact wp_back fun β ρ w' hM' => ⟨rfl, hM'.below⟩
end Go.Proofs.YtohikebnlamnnaaDoor.greedyTells
namespace Go.Proofs.YtohikebnlamnnaaDoor.greedyTells
open Go.ChangeShapes Go.WideShapes Go.ChangeAt Go.RowKit
open Go.ChangeMaps (open_string shut_string)
set_option linter.unusedVariables false

theorem own : ownKnob Tryd.prog.godebug = none := by kernel_rfl
theorem laidOut : laidOutB Tryd.prog = true := by kernel_rfl

/-- A world in which the list of bounds lies as it was laid. -/
noncomputable def laidWorld (os : Os) : World :=
  let w0 := World.holding Tryd.prog os ⟨#[], #[], []⟩
  { w0 with heap := w0.heap.modify 0 fun
      | .cells _ t frozen => .cells #[.int .i64 255, .int .i64 4294967295, .int .i64 1099511627776, .int .i64 1099511627776, .int .i64 1073741824] t frozen
      | o => o }
theorem laid_met (os : Os) (args : Array Value) : laidMet Tryd.prog Rows.greedyTellsRow.laid ((laidWorld os).forCall (fun _ _ => 0) ⟨#[], args, []⟩).memory :=
  laidMet_of_run (ps := [.cell 0 0, .cell 0 1, .cell 0 2, .cell 0 3, .cell 0 4]) 8 (by kernel_rfl) (by kernel_rfl) (by kernel_rfl)

set_option maxRecDepth 100000 in
theorem lifted (os : Os) (started : os.Started) (H : Type) (enc : TypeId × Value → H) :
    ReturnsInHanded {} Tryd.checked os 7 .any (fun w args => (Rows.greedyTellsSpec.pre enc Tryd.prog Tryd.f7 Rows.greedyTellsRow.domain false w args ∧ laidMet Tryd.prog Rows.greedyTellsRow.laid w) ∧ sizedMet enc Tryd.prog Tryd.f7 (OpenSpec.ofChange Rows.greedyTellsSpec) false w args) (Rows.greedyTellsSpec.post enc Tryd.prog Tryd.f7 false true false false) := by
  refine returnsInHanded_of_change_and (C := Tryd.checked) (X := fun w _ => laidMet Tryd.prog Rows.greedyTellsRow.laid w) (fun _ _ _ hh h => h.of_heap hh) own started (by kernel_rfl) Tryd.func7
    (ChangeSpec.witness_at (enc := enc) (C := Tryd.checked) (os := os) (X := fun w _ => laidMet Tryd.prog Rows.greedyTellsRow.laid w) false (laidWorld os) #[.slice none 0 0, .int .i64 0, .slice none 0 0] 8 rfl (by kernel_rfl) (by kernel_rfl) (by kernel_rfl) (by kernel_rfl) (by kernel_rfl) (laid_met os _)) ?_
  intro W base args ds gs before hval0 hW hcnd _ hL _
  have hval : ∀ (j : Nat) t v, Tryd.f7.params[j]? = some t → args[j]? = some v → Value.okWide Tryd.prog W .any base t v := hval0
  have hW' := hW
  obtain ⟨p, q, hA0, hV, rfl, hfz, hnd⟩ := hW
  have hA : DataW.TrodAll enc Tryd.prog W 0 (fun _ => true) true Tryd.f7.params.toList args.toList ds p := hA0
  rw [Tryd.params7] at hA hval
  obtain ⟨v0, vs0, d0, ds0, p0, q0, hargs, rfl, rfl, h0, r0⟩ := trodAll_cons hA
  obtain ⟨v1, vs1, d1, ds1, p1, q1, rfl, rfl, rfl, h1, r1⟩ := trodAll_cons r0
  obtain ⟨v2, vs2, d2, ds2, p2, q2, rfl, rfl, rfl, h2, r2⟩ := trodAll_cons r1
  obtain ⟨rfl, rfl, rfl⟩ := trodAll_nil r2
  obtain rfl : args = #[v0, v1, v2] := by cases args; simp_all
  obtain ⟨rfl, rfl⟩ := trodVars_none hV
  have k0 := h0
  have lt0 : ∀ x ∈ p0, x.block < W.heap.size := by obtain ⟨m, hm⟩ := k0; exact DataW.trod_lt m _ _ _ hm
  obtain ⟨a0, n0, c0, l0, rfl, f0⟩ := greedy.open_accs (hval 0 24 v0 rfl rfl) h0
  have k1 := h1
  have lt1 : ∀ x ∈ p1, x.block < W.heap.size := by obtain ⟨m, hm⟩ := k1; exact DataW.trod_lt m _ _ _ hm
  obtain ⟨z1, rfl, f1⟩ := queue.open_fit (hval 1 3 v1 rfl rfl) h1
  have k2 := h2
  have lt2 : ∀ x ∈ p2, x.block < W.heap.size := by obtain ⟨m, hm⟩ := k2; exact DataW.trod_lt m _ _ _ hm
  obtain ⟨a2, n2, c2, l2, rfl, f2⟩ := queue.open_txs (hval 2 38 v2 rfl rfl) h2
  clear hA0 hval0
  have hM : txn.Most W := txn.most_of_laid hL
  refine (walk a0 n0 c0 l0 z1 a2 n2 c2 l2 W hM f0 f1 f2).mono fun e W' ⟨he, bel⟩ => ?_
  subst he
  exact ⟨_, rfl, _, _, _, [], _, [], hW', trodAll_mk1 (shut_bool Tryd.underlying4 _), (trodAll_cons_mk (Below.trod laidOut (by kernel_rfl) (of_decide_eq_true (by kernel_rfl)) k0 bel lt0) (trodAll_cons_mk (Below.trod laidOut (by kernel_rfl) (of_decide_eq_true (by kernel_rfl)) k1 bel lt1) (trodAll_cons_mk (Below.trod laidOut (by kernel_rfl) (of_decide_eq_true (by kernel_rfl)) k2 bel lt2) trodAll_mk0))), rfl, bel.frame _, fun h => by cases h⟩

theorem over : Rows.GreedyTellsSaid :=
  OpenClaim.holds_of_wide 7 Tryd.f7 rfl rfl rfl rfl rfl rfl rfl ⟨rfl, rfl, rfl, rfl, rfl⟩ rfl rfl rfl rfl rfl (by kernel_rfl) Tryd.func7 (by kernel_rfl)
    (of_decide_eq_true (by kernel_rfl)) (by unfold Func.isWrapper; first | (rw [if_pos (by decide +kernel)]; kernel_rfl) | (rw [if_neg (by decide +kernel)]; exact ⟨rfl, rfl⟩))
    (fun os started H enc _ => lifted os started H enc)

/-- THE STATEMENT. -/
theorem proved : Rows.GreedyTellsCardSaid :=
  Claim7.holds_tied_plain_at .later [] [.data] true (true, "720f6701ae90a052211e6470d7d286ec70df9faa60d1833d35a594b593cda112") false
    over (fun _ h => by cases h) (by kernel_rfl) (fun _ h => by cases h) greedyTells_row_tie rfl ⟨rfl, rfl⟩ (by kernel_rfl) rfl
    (fun f fn hf hfn => by
      obtain rfl : f = 7 := (Option.some.inj ((show Tryd.prog.funcNamed "hopper/hopperlaw12.GreedyTells" = some 7 by kernel_rfl).symm.trans hf)).symm
      obtain rfl : fn = Tryd.f7 := (Option.some.inj (Tryd.func7.symm.trans hfn)).symm
      exact ⟨by kernel_rfl, fun j t ht => by
        rw [Tryd.params7] at ht
        match j, ht with
        | 0, ht =>
          obtain rfl : t = 24 := by simpa using ht.symm
          exact (show Tryd.prog.wantsStandIn 24 = false by kernel_rfl)
        | 1, ht =>
          obtain rfl : t = 3 := by simpa using ht.symm
          exact (show Tryd.prog.wantsStandIn 3 = false by kernel_rfl)
        | 2, ht =>
          obtain rfl : t = 38 := by simpa using ht.symm
          exact (show Tryd.prog.wantsStandIn 38 = false by kernel_rfl)
        | j + 3, ht => simp at ht⟩)
    (by kernel_rfl)
#print axioms proved
end Go.Proofs.YtohikebnlamnnaaDoor.greedyTells
