/- hopper/hopperlaw06.HeapTells answers true at every input, and every argument reads behind the call as it read before; hopper/txn.most holds what the program's text lays there: the card ties it. No other condition. -/
import Derived.Test.YtjejjgoagjkfdaaDoorRows
import Derived.Test.YtjejjgoagjkfdaaDoorTxn
import Derived.OpenShut
import Derived.ChangeOld
import Derived.LaidLaws
import Derived.Test.YtjejjgoagjkfdaaDoorHeapN
import Derived.Test.YtjejjgoagjkfdaaDoorQueueOpen
import Derived.Test.YtjejjgoagjkfdaaDoorCards
import Derived.Test.YtjejjgoagjkfdaaDoorTie
import Derived.WalkKit
import Derived.ProofKit
import Derived.ShutString
import Derived.Below
import Derived.Handed
import Derived.SevenTiedAt
namespace Go.Proofs.YtjejjgoagjkfdaaDoor.txn
open Go.RowKit Go.ChangeShapes Go.WideShapes
set_option linter.unusedVariables false

set_option maxRecDepth 100000 in
/-- From what is laid to the cells that Check reads. -/
theorem most_of_laid {W : World} (h : laidMet Tryd.prog [("hopper/txn.most", Rows.laid_hopper_txn_most)] W) : Most W := by
  obtain ⟨ps, ⟨g, t, cs, fuel, p, q, hg, ht, hvar, hd, _, _⟩, _⟩ := h
  obtain rfl := Option.some.inj ((show Tryd.prog.globalNamed "hopper/txn.most" = some 0 by kernel_rfl).symm.trans hg)
  obtain rfl := Option.some.inj ((show (Tryd.prog.globals[0]?).map (·.type) = some 83 by kernel_rfl).symm.trans ht)
  obtain ⟨xs, m, _, hx, hlen, hn, hi⟩ := DataW.trod_array Tryd.underlying83 hd
  have h5 : cs.toList.length = 5 := hlen.trans (by kernel_rfl)
  obtain ⟨l⟩ := cs
  match l, h5 with
  | [c0, c1, c2, c3, c4], _ =>
    match xs, hn with
    | [y0, y1, y2, y3, y4], _ =>
      have k3 : Tryd.prog.cellsOf 3 = 1 := by kernel_rfl
      have g0 := hi 0 (by omega)
      have g1 := hi 1 (by omega)
      have g2 := hi 2 (by omega)
      have g3 := hi 3 (by omega)
      have g4 := hi 4 (by omega)
      simp [k3] at g0 g1 g2 g3 g4
      obtain ⟨a0, e0, f0, _⟩ := DataW.trod_int Tryd.underlying3 g0
      obtain ⟨a1, e1, f1, _⟩ := DataW.trod_int Tryd.underlying3 g1
      obtain ⟨a2, e2, f2, _⟩ := DataW.trod_int Tryd.underlying3 g2
      obtain ⟨a3, e3, f3, _⟩ := DataW.trod_int Tryd.underlying3 g3
      obtain ⟨a4, e4, f4, _⟩ := DataW.trod_int Tryd.underlying3 g4
      simp at e0 e1 e2 e3 e4
      subst e0 e1 e2 e3 e4 f0 f1 f2 f3 f4
      simp [Rows.laid_hopper_txn_most] at hx
      obtain ⟨⟨r0, r1, r2, r3, r4⟩, _⟩ := hx
      subst r0 r1 r2 r3 r4
      have z0 := World.var?_cell hg hvar 0
      have z1 := World.var?_cell hg hvar 1
      have z2 := World.var?_cell hg hvar 2
      have z3 := World.var?_cell hg hvar 3
      have z4 := World.var?_cell hg hvar 4
      have hz : 0 < W.heap.size := by
        rcases Nat.eq_zero_or_pos W.heap.size with h0 | h0
        · exfalso
          simp [World.cell?, Array.getElem?_eq_none (show W.heap.size ≤ 0 by omega)] at z0
        · exact h0
      exact ⟨by simpa using z0, by simpa using z1, by simpa using z2, by simpa using z3, by simpa using z4, hz⟩
end Go.Proofs.YtjejjgoagjkfdaaDoor.txn
namespace Go.Proofs.YtjejjgoagjkfdaaDoor.heapTells
open Go.RowKit Sx txn queue heap
set_option linter.unusedVariables false
set_option linter.unusedSimpArgs false
set_option maxHeartbeats 4000000 in
set_option maxRecDepth 100000 in
theorem walk (a : Option Addr) (n c : Nat) (l : List Tx) (x : Tx) (w : World) (hM : Most w) (h : Sl a n c ∧ n = l.length ∧ At w (pt a n) (cellsL l) ∧ ∀ x ∈ l, Tx.fits x) (hx : Tx.fits x) : Calls Tryd.prog 10 (List.toArray [.slice a n c, x.val]) w fun e w' =>  e = .returned (.bool true) ∧ Below w.heap.size w w' := by
  obtain ⟨hs, hn, hrow, hft⟩ := h
  have hn63 := hs.le
  have hd : ∀ x ∈ l, x.d.size ≤ maxLen := fun x hx => (hft x hx).2.2.2.2.2
  have hdx : x.d.size ≤ maxLen := hx.2.2.2.2.2
  refine calls_of_exec env_ok.keeps Tryd.func10 rfl [(7, (line [0, 2, 1, 3, 4, 5, 6, 7, 9, 10, 8, 11, 12, 13, 14, 15, 16, 17, 18, 19, 20, 21, 22, 23, 24, 25, 26, 27, 28, 29, 30, 31, 32, 33, 34, 35, 36, 37, 38, 39, 40], []))] (schedQ_ok _ _ (by kernel_rfl)) [rowF (pt a n) (cellsL l)] (at1 hrow) ?_
  (conv => arg 5; whnf)
  refine meetc (f := 38) (v := .bool (fewB l && decide ((n : Int) ≤ 40))) rfl (by kernel_rfl) (fun β ρ w' hM' => rfew l a n c 40 w' hs hn (hM'.at_ (.head _))) ?_
  (conv => arg 5; whnf)
  refine wp_g0 (fun hsm => ?_) (fun hsm => ?_)
  · have hl : l.length ≤ 40 := by simp at hsm; omega
    (conv => arg 5; whnf)
    refine meetc (f := 27) (v := .bool (decide (x.d.size ≤ 500))) rfl (by kernel_rfl) (fun β ρ w' hM' => rsmall x w') ?_
    (conv => arg 5; whnf)
    refine wp_br (fun hsx => ?_) (fun hsx => ?_)
    · (conv => arg 5; whnf)
      refine meetc (f := 39) (v := .bool true) rfl (by kernel_rfl) (fun β ρ w' hM' => live w' (hM.later hM'.below)) ?_
      (conv => arg 5; whnf)
      exact wp_back fun β ρ w' hM' => ⟨rfl, hM'.below⟩
    · have hpl := popL_length l
      have PU := fun w hM hr => pushG x hdx l a n c w hM hs hn (by omega) hd hr _ rfl
      have PU2 := fun w hM hr => rpushG x hdx l a n c w hM hs hn (by omega) hd hr
      have MK := fun w hM hr => makeG l a n c w hM hs hn (by omega) hd hr _ rfl
      have MK2 := fun w hM hr => rmake_ l a n c w hM hs hn (by omega) hd hr
      have OR := fun w hM hr => orderG l a n c w hM hs hn (by omega) hd hr _ rfl
      have OR2 := fun w hM hr => rorderG l a n c w hM hs hn (by omega) hd hr
      have WO := fun w hM hr => worst_ l a n c w hM hs hn (by omega) hd hr
      have WO2 := fun w hM hr => rworst_ l a n c w hM hs hn (by omega) hd hr
      have CK := fun w hM hr => check_ l a n c w hM hs hn (by omega) hd hr
      have CK2 := fun w hM hr => rcheck_ l a n c w hM hs hn (by omega) hd hr
      have lpu := pushL_length l x
      have lmk := makeL_length l
      have lor := ordL_length l
      generalize pushL l x = pu at *
      generalize makeL l = mk at *
      generalize ordL l = od at *
      generalize worstTo l n = wo at *
      generalize heapV l = hv at *
      generalize hz : decide (0 < n) = z at *
      by_cases h1 : 1 ≤ n
      · have PO := fun w hM hr => pop_ l a n c w hM hs hn (by omega) hd hr h1
        have PO2 := fun w hM hr => rpop_ l a n c w hM hs hn (by omega) hd hr h1
        generalize popL l = po at *
        generalize nx l 0 = y at *
        (conv => arg 5; whnf)
        refine meet1F (f := 40) (n := n - 1) (v := fun a1 c1 => .tuple #[.slice a1 (n - 1) c1, y.val, .bool true]) (xs := cellsL po) rfl (by kernel_rfl) (fun β ρ w' hM' => PO w' (hM.later hM'.below) (hM'.at_ (.head _))) (fun r c_r h_r _ => ?_)
        (conv => arg 5; whnf)
        refine meet1F (f := 41) (n := n - 1) (v := fun a1 c1 => .tuple #[.slice a1 (n - 1) c1, y.val, .bool true]) (xs := cellsL po) rfl (by kernel_rfl) (fun β ρ w' hM' => PO2 w' (hM.later hM'.below) (hM'.at_ (.tail _ (.head _)))) (fun r2 c_r2 h_r2 _ => ?_)
        (conv => arg 5; whnf)
        refine meetc (f := 42) (v := .tuple #[.int .i64 wo, .bool z]) rfl (by kernel_rfl) (fun β ρ w' hM' => WO w' (hM.later hM'.below) (hM'.at_ (.tail _ (.tail _ (.head _))))) ?_
        (conv => arg 5; whnf)
        refine meetc (f := 43) (v := .tuple #[.int .i64 wo, .bool z]) rfl (by kernel_rfl) (fun β ρ w' hM' => WO2 w' (hM.later hM'.below) (hM'.at_ (.tail _ (.tail _ (.head _))))) ?_
        (conv => arg 5; whnf)
        refine meetc (f := 44) (v := .bool hv) rfl (by kernel_rfl) (fun β ρ w' hM' => CK w' (hM.later hM'.below) (hM'.at_ (.tail _ (.tail _ (.head _))))) ?_
        (conv => arg 5; whnf)
        refine meetc (f := 45) (v := .bool hv) rfl (by kernel_rfl) (fun β ρ w' hM' => CK2 w' (hM.later hM'.below) (hM'.at_ (.tail _ (.tail _ (.head _))))) ?_
        (conv => arg 5; whnf)
        refine wp_prim (.bool false) (fun w => by cases hv <;> rfl) ?_
        (conv => arg 5; whnf)
        refine meet1F (f := 46) (n := l.length + 1) (v := fun a1 c1 => .slice a1 (l.length + 1) c1) (xs := cellsL pu) rfl (by kernel_rfl) (fun β ρ w' hM' => PU w' (hM.later hM'.below) (hM'.at_ (.tail _ (.tail _ (.head _))))) (fun p c_p h_p _ => ?_)
        (conv => arg 5; whnf)
        refine meet1F (f := 47) (n := l.length + 1) (v := fun a1 c1 => .slice a1 (l.length + 1) c1) (xs := cellsL pu) rfl (by kernel_rfl) (fun β ρ w' hM' => PU2 w' (hM.later hM'.below) (hM'.at_ (.tail _ (.tail _ (.tail _ (.head _)))))) (fun q c_q h_q _ => ?_)
        (conv => arg 5; whnf)
        refine meetc (f := 22) (v := .bool true) rfl (by kernel_rfl) (fun β ρ w' hM' => rtxs pu p (l.length + 1) c_p q c_q w' h_p lpu.symm (hM'.at_ (.tail _ (.head _))) h_q (hM'.at_ (.head _))) ?_
        (conv => arg 5; whnf)
        refine meetc (f := 22) (v := .bool true) rfl (by kernel_rfl) (fun β ρ w' hM' => rtxs po r (n - 1) c_r r2 c_r2 w' h_r (by omega) (hM'.at_ (.tail _ (.tail _ (.tail _ (.head _))))) h_r2 (hM'.at_ (.tail _ (.tail _ (.head _))))) ?_
        (conv => arg 5; whnf)
        refine wp_prim (.bool false) (fun w => queue.neq_same _ _ y w) ?_
        (conv => arg 5; whnf)
        refine wp_prim (.bool false) (fun w => rfl) ?_
        (conv => arg 5; whnf)
        refine wp_g0 (fun _ => ?_) (fun h => by simp at h)
        (conv => arg 5; whnf)
        refine wp_prim (.bool false) (fun w => by cases z <;> rfl) ?_
        (conv => arg 5; whnf)
        refine meet1F (f := 48) (n := n) (v := fun a1 c1 => .slice a1 n c1) (xs := cellsL mk) rfl (by kernel_rfl) (fun β ρ w' hM' => MK w' (hM.later hM'.below) (hM'.at_ (.tail _ (.tail _ (.tail _ (.tail _ (.head _))))))) (fun m c_m h_m _ => ?_)
        (conv => arg 5; whnf)
        refine meet1F (f := 49) (n := n) (v := fun a1 c1 => .slice a1 n c1) (xs := cellsL mk) rfl (by kernel_rfl) (fun β ρ w' hM' => MK2 w' (hM.later hM'.below) (hM'.at_ (.tail _ (.tail _ (.tail _ (.tail _ (.tail _ (.head _)))))))) (fun m2 c_m2 h_m2 _ => ?_)
        (conv => arg 5; whnf)
        refine meetc (f := 22) (v := .bool true) rfl (by kernel_rfl) (fun β ρ w' hM' => rtxs mk m n c_m m2 c_m2 w' h_m (by omega) (hM'.at_ (.tail _ (.head _))) h_m2 (hM'.at_ (.head _))) ?_
        (conv => arg 5; whnf)
        refine meet1F (f := 50) (n := n) (v := fun a1 c1 => .slice a1 n c1) (xs := cellsL od) rfl (by kernel_rfl) (fun β ρ w' hM' => OR w' (hM.later hM'.below) (hM'.at_ (.tail _ (.tail _ (.tail _ (.tail _ (.tail _ (.tail _ (.head _))))))))) (fun o c_o h_o _ => ?_)
        (conv => arg 5; whnf)
        refine meet1F (f := 51) (n := n) (v := fun a1 c1 => .slice a1 n c1) (xs := cellsL od) rfl (by kernel_rfl) (fun β ρ w' hM' => OR2 w' (hM.later hM'.below) (hM'.at_ (.tail _ (.tail _ (.tail _ (.tail _ (.tail _ (.tail _ (.tail _ (.head _)))))))))) (fun o2 c_o2 h_o2 _ => ?_)
        (conv => arg 5; whnf)
        refine meetc (f := 22) (v := .bool true) rfl (by kernel_rfl) (fun β ρ w' hM' => rtxs od o n c_o o2 c_o2 w' h_o (by omega) (hM'.at_ (.tail _ (.head _))) h_o2 (hM'.at_ (.head _))) ?_
        (conv => arg 5; whnf)
        refine meetc (f := 39) (v := .bool true) rfl (by kernel_rfl) (fun β ρ w' hM' => live w' (hM.later hM'.below)) ?_
        (conv => arg 5; whnf)
        exact wp_back fun β ρ w' hM' => ⟨rfl, hM'.below⟩
      · have h0 : n = 0 := by omega
        subst h0
        (conv => arg 5; whnf)
        refine meetc (f := 40) (v := .tuple #[.slice none 0 0, tx0.val, .bool false]) rfl (by kernel_rfl) (fun β ρ w' hM' => pop_zero a c w') ?_
        (conv => arg 5; whnf)
        refine meetc (f := 41) (v := .tuple #[.slice none 0 0, tx0.val, .bool false]) rfl (by kernel_rfl) (fun β ρ w' hM' => rpop_zero a c w') ?_
        (conv => arg 5; whnf)
        refine meetc (f := 42) (v := .tuple #[.int .i64 wo, .bool z]) rfl (by kernel_rfl) (fun β ρ w' hM' => WO w' (hM.later hM'.below) (hM'.at_ (.head _))) ?_
        (conv => arg 5; whnf)
        refine meetc (f := 43) (v := .tuple #[.int .i64 wo, .bool z]) rfl (by kernel_rfl) (fun β ρ w' hM' => WO2 w' (hM.later hM'.below) (hM'.at_ (.head _))) ?_
        (conv => arg 5; whnf)
        refine meetc (f := 44) (v := .bool hv) rfl (by kernel_rfl) (fun β ρ w' hM' => CK w' (hM.later hM'.below) (hM'.at_ (.head _))) ?_
        (conv => arg 5; whnf)
        refine meetc (f := 45) (v := .bool hv) rfl (by kernel_rfl) (fun β ρ w' hM' => CK2 w' (hM.later hM'.below) (hM'.at_ (.head _))) ?_
        (conv => arg 5; whnf)
        refine wp_prim (.bool false) (fun w => by cases hv <;> rfl) ?_
        (conv => arg 5; whnf)
        refine meet1F (f := 46) (n := l.length + 1) (v := fun a1 c1 => .slice a1 (l.length + 1) c1) (xs := cellsL pu) rfl (by kernel_rfl) (fun β ρ w' hM' => PU w' (hM.later hM'.below) (hM'.at_ (.head _))) (fun p c_p h_p _ => ?_)
        (conv => arg 5; whnf)
        refine meet1F (f := 47) (n := l.length + 1) (v := fun a1 c1 => .slice a1 (l.length + 1) c1) (xs := cellsL pu) rfl (by kernel_rfl) (fun β ρ w' hM' => PU2 w' (hM.later hM'.below) (hM'.at_ (.tail _ (.head _)))) (fun q c_q h_q _ => ?_)
        (conv => arg 5; whnf)
        refine meetc (f := 22) (v := .bool true) rfl (by kernel_rfl) (fun β ρ w' hM' => rtxs pu p (l.length + 1) c_p q c_q w' h_p lpu.symm (hM'.at_ (.tail _ (.head _))) h_q (hM'.at_ (.head _))) ?_
        (conv => arg 5; whnf)
        refine meetc (f := 22) (v := .bool true) rfl (by kernel_rfl) (fun β ρ w' hM' => rtxs [] none 0 0 none 0 w' ⟨Nat.le_refl _, by simp [maxLen], fun _ => ⟨rfl, rfl⟩⟩ rfl (fun g hg => by cases hg) ⟨Nat.le_refl _, by simp [maxLen], fun _ => ⟨rfl, rfl⟩⟩ (fun g hg => by cases hg)) ?_
        (conv => arg 5; whnf)
        refine wp_prim (.bool false) (fun w => queue.neq_same _ _ tx0 w) ?_
        (conv => arg 5; whnf)
        refine wp_prim (.bool false) (fun w => rfl) ?_
        (conv => arg 5; whnf)
        refine wp_g0 (fun _ => ?_) (fun h => by simp at h)
        (conv => arg 5; whnf)
        refine wp_prim (.bool false) (fun w => by cases z <;> rfl) ?_
        (conv => arg 5; whnf)
        refine meet1F (f := 48) (n := 0) (v := fun a1 c1 => .slice a1 0 c1) (xs := cellsL mk) rfl (by kernel_rfl) (fun β ρ w' hM' => MK w' (hM.later hM'.below) (hM'.at_ (.tail _ (.tail _ (.head _))))) (fun m c_m h_m _ => ?_)
        (conv => arg 5; whnf)
        refine meet1F (f := 49) (n := 0) (v := fun a1 c1 => .slice a1 0 c1) (xs := cellsL mk) rfl (by kernel_rfl) (fun β ρ w' hM' => MK2 w' (hM.later hM'.below) (hM'.at_ (.tail _ (.tail _ (.tail _ (.head _)))))) (fun m2 c_m2 h_m2 _ => ?_)
        (conv => arg 5; whnf)
        refine meetc (f := 22) (v := .bool true) rfl (by kernel_rfl) (fun β ρ w' hM' => rtxs mk m 0 c_m m2 c_m2 w' h_m (by omega) (hM'.at_ (.tail _ (.head _))) h_m2 (hM'.at_ (.head _))) ?_
        (conv => arg 5; whnf)
        refine meet1F (f := 50) (n := 0) (v := fun a1 c1 => .slice a1 0 c1) (xs := cellsL od) rfl (by kernel_rfl) (fun β ρ w' hM' => OR w' (hM.later hM'.below) (hM'.at_ (.tail _ (.tail _ (.tail _ (.tail _ (.head _))))))) (fun o c_o h_o _ => ?_)
        (conv => arg 5; whnf)
        refine meet1F (f := 51) (n := 0) (v := fun a1 c1 => .slice a1 0 c1) (xs := cellsL od) rfl (by kernel_rfl) (fun β ρ w' hM' => OR2 w' (hM.later hM'.below) (hM'.at_ (.tail _ (.tail _ (.tail _ (.tail _ (.tail _ (.head _)))))))) (fun o2 c_o2 h_o2 _ => ?_)
        (conv => arg 5; whnf)
        refine meetc (f := 22) (v := .bool true) rfl (by kernel_rfl) (fun β ρ w' hM' => rtxs od o 0 c_o o2 c_o2 w' h_o (by omega) (hM'.at_ (.tail _ (.head _))) h_o2 (hM'.at_ (.head _))) ?_
        (conv => arg 5; whnf)
        refine meetc (f := 39) (v := .bool true) rfl (by kernel_rfl) (fun β ρ w' hM' => live w' (hM.later hM'.below)) ?_
        (conv => arg 5; whnf)
        exact wp_back fun β ρ w' hM' => ⟨rfl, hM'.below⟩
  · (conv => arg 5; whnf)
    refine meetc (f := 39) (v := .bool true) rfl (by kernel_rfl) (fun β ρ w' hM' => live w' (hM.later hM'.below)) ?_
    (conv => arg 5; whnf)
    exact wp_back fun β ρ w' hM' => ⟨rfl, hM'.below⟩
end Go.Proofs.YtjejjgoagjkfdaaDoor.heapTells
namespace Go.Proofs.YtjejjgoagjkfdaaDoor.heapTells
open Go.ChangeShapes Go.WideShapes Go.ChangeAt Go.RowKit
open Go.ChangeMaps (open_string shut_string)
set_option linter.unusedVariables false

theorem own : ownKnob Tryd.prog.godebug = none := by kernel_rfl
theorem laidOut : laidOutB Tryd.prog = true := by kernel_rfl

/-- A world in which the list of bounds lies as it was laid. -/
noncomputable def laidWorld (os : Os) : World :=
  let w0 := World.holding Tryd.prog os ⟨#[], #[], []⟩
  { w0 with heap := w0.heap.modify 0 fun
      | .cells _ t frozen => .cells #[.int .i64 255, .int .i64 4294967295, .int .i64 1099511627776, .int .i64 1099511627776, .int .i64 1073741824] t frozen
      | o => o }
theorem laid_met (os : Os) (args : Array Value) : laidMet Tryd.prog Rows.heapTellsRow.laid ((laidWorld os).forCall (fun _ _ => 0) ⟨#[], args, []⟩).memory :=
  laidMet_of_run (ps := [.cell 0 0, .cell 0 1, .cell 0 2, .cell 0 3, .cell 0 4]) 8 (by kernel_rfl) (by kernel_rfl) (by kernel_rfl)

set_option maxRecDepth 100000 in
theorem lifted (os : Os) (started : os.Started) (H : Type) (enc : TypeId × Value → H) :
    ReturnsInHanded {} Tryd.checked os 10 .any (fun w args => (Rows.heapTellsSpec.pre enc Tryd.prog Tryd.f10 Rows.heapTellsRow.domain false w args ∧ laidMet Tryd.prog Rows.heapTellsRow.laid w) ∧ sizedMet enc Tryd.prog Tryd.f10 (OpenSpec.ofChange Rows.heapTellsSpec) false w args) (Rows.heapTellsSpec.post enc Tryd.prog Tryd.f10 false true false false) := by
  refine returnsInHanded_of_change_and (C := Tryd.checked) (X := fun w _ => laidMet Tryd.prog Rows.heapTellsRow.laid w) (fun _ _ _ hh h => h.of_heap hh) own started (by kernel_rfl) Tryd.func10
    (ChangeSpec.witness_at (enc := enc) (C := Tryd.checked) (os := os) (X := fun w _ => laidMet Tryd.prog Rows.heapTellsRow.laid w) false (laidWorld os) #[.slice none 0 0, .agg #[.int .i64 0, .int .i64 0, .int .i64 0, .int .i64 0, .int .i64 0, .string ByteArray.empty]] 8 rfl (by kernel_rfl) (by kernel_rfl) (by kernel_rfl) (by kernel_rfl) (by kernel_rfl) (laid_met os _)) ?_
  intro W base args ds gs before hval0 hW hcnd _ hL _
  have hval : ∀ (j : Nat) t v, Tryd.f10.params[j]? = some t → args[j]? = some v → Value.okWide Tryd.prog W .any base t v := hval0
  have hW' := hW
  obtain ⟨p, q, hA0, hV, rfl, hfz, hnd⟩ := hW
  have hA : DataW.TrodAll enc Tryd.prog W 0 (fun _ => true) true Tryd.f10.params.toList args.toList ds p := hA0
  rw [Tryd.params10] at hA hval
  obtain ⟨v0, vs0, d0, ds0, p0, q0, hargs, rfl, rfl, h0, r0⟩ := trodAll_cons hA
  obtain ⟨v1, vs1, d1, ds1, p1, q1, rfl, rfl, rfl, h1, r1⟩ := trodAll_cons r0
  obtain ⟨rfl, rfl, rfl⟩ := trodAll_nil r1
  obtain rfl : args = #[v0, v1] := by cases args; simp_all
  obtain ⟨rfl, rfl⟩ := trodVars_none hV
  have k0 := h0
  have lt0 : ∀ x ∈ p0, x.block < W.heap.size := by obtain ⟨m, hm⟩ := k0; exact DataW.trod_lt m _ _ _ hm
  obtain ⟨a0, n0, c0, l0, rfl, f0⟩ := queue.open_txs (hval 0 22 v0 rfl rfl) h0
  have k1 := h1
  have lt1 : ∀ x ∈ p1, x.block < W.heap.size := by obtain ⟨m, hm⟩ := k1; exact DataW.trod_lt m _ _ _ hm
  obtain ⟨x1, rfl, f1⟩ := queue.open_tx (hval 1 28 v1 rfl rfl) h1
  clear hA0 hval0
  have hM : txn.Most W := txn.most_of_laid hL
  refine (walk a0 n0 c0 l0 x1 W hM f0 f1).mono fun e W' ⟨he, bel⟩ => ?_
  subst he
  exact ⟨_, rfl, _, _, _, [], _, [], hW', trodAll_mk1 (shut_bool Tryd.underlying4 _), (trodAll_cons_mk (Below.trod laidOut (by kernel_rfl) (of_decide_eq_true (by kernel_rfl)) k0 bel lt0) (trodAll_cons_mk (Below.trod laidOut (by kernel_rfl) (of_decide_eq_true (by kernel_rfl)) k1 bel lt1) trodAll_mk0)), rfl, bel.frame _, fun h => by cases h⟩

theorem over : Rows.HeapTellsSaid :=
  OpenClaim.holds_of_wide 10 Tryd.f10 rfl rfl rfl rfl rfl rfl rfl ⟨rfl, rfl, rfl, rfl, rfl⟩ rfl rfl rfl rfl rfl (by kernel_rfl) Tryd.func10 (by kernel_rfl)
    (of_decide_eq_true (by kernel_rfl)) (by unfold Func.isWrapper; first | (rw [if_pos (by decide +kernel)]; kernel_rfl) | (rw [if_neg (by decide +kernel)]; exact ⟨rfl, rfl⟩))
    (fun os started H enc _ => lifted os started H enc)

/-- THE STATEMENT. -/
theorem proved : Rows.HeapTellsCardSaid :=
  Claim7.holds_tied_plain_at .later [] [.data] true (true, "7b43f0632fcd048b6f8d684439df47e40f777b51c5ba6c01f50c9ec08b270201") false
    over (fun _ h => by cases h) (by kernel_rfl) (fun _ h => by cases h) heapTells_row_tie rfl ⟨rfl, rfl⟩ (by kernel_rfl) rfl
    (fun f fn hf hfn => by
      obtain rfl : f = 10 := (Option.some.inj ((show Tryd.prog.funcNamed "hopper/hopperlaw06.HeapTells" = some 10 by kernel_rfl).symm.trans hf)).symm
      obtain rfl : fn = Tryd.f10 := (Option.some.inj (Tryd.func10.symm.trans hfn)).symm
      exact ⟨by kernel_rfl, fun j t ht => by
        rw [Tryd.params10] at ht
        match j, ht with
        | 0, ht =>
          obtain rfl : t = 22 := by simpa using ht.symm
          exact (show Tryd.prog.wantsStandIn 22 = false by kernel_rfl)
        | 1, ht =>
          obtain rfl : t = 28 := by simpa using ht.symm
          exact (show Tryd.prog.wantsStandIn 28 = false by kernel_rfl)
        | j + 2, ht => simp at ht⟩)
    (by kernel_rfl)
#print axioms proved
end Go.Proofs.YtjejjgoagjkfdaaDoor.heapTells
