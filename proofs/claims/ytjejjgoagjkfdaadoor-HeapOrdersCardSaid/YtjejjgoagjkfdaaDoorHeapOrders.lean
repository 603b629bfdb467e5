/- hopper/hopperlaw06.HeapOrders answers true at every input, and every argument reads behind the call as it read before; hopper/txn.most holds what the program's text lays there: the card ties it. No other condition. -/
import Derived.Test.YtjejjgoagjkfdaaDoorRows
import Derived.Test.YtjejjgoagjkfdaaDoorTxn
import Derived.OpenShut
import Derived.ChangeOld
import Derived.LaidLaws
import Derived.Test.YtjejjgoagjkfdaaDoorHeapN
import Derived.Test.YtjejjgoagjkfdaaDoorQueueOpen
import Derived.Test.YtjejjgoagjkfdaaDoorCards
import Derived.Test.YtjejjgoagjkfdaaDoorTie
import Derived.WalkKit
import Derived.ProofKit
import Derived.ShutString
import Derived.Below
import Derived.Handed
import Derived.SevenTiedAt
namespace Go.Proofs.YtjejjgoagjkfdaaDoor.txn
open Go.RowKit Go.ChangeShapes Go.WideShapes
set_option linter.unusedVariables false

set_option maxRecDepth 100000 in
/-- From what is laid to the cells that Check reads. -/
theorem most_of_laid {W : World} (h : laidMet Tryd.prog [("hopper/txn.most", Rows.laid_hopper_txn_most)] W) : Most W := by
  obtain ⟨ps, ⟨g, t, cs, fuel, p, q, hg, ht, hvar, hd, _, _⟩, _⟩ := h
  obtain rfl := Option.some.inj ((show Tryd.prog.globalNamed "hopper/txn.most" = some 0 by kernel_rfl).symm.trans hg)
  obtain rfl := Option.some.inj ((show (Tryd.prog.globals[0]?).map (·.type) = some 83 by kernel_rfl).symm.trans ht)
  obtain ⟨xs, m, _, hx, hlen, hn, hi⟩ := DataW.trod_array Tryd.underlying83 hd
  have h5 : cs.toList.length = 5 := hlen.trans (by kernel_rfl)
  obtain ⟨l⟩ := cs
  match l, h5 with
  | [c0, c1, c2, c3, c4], _ =>
    match xs, hn with
    | [y0, y1, y2, y3, y4], _ =>
      have k3 : Tryd.prog.cellsOf 3 = 1 := by kernel_rfl
      have g0 := hi 0 (by omega)
      have g1 := hi 1 (by omega)
      have g2 := hi 2 (by omega)
      have g3 := hi 3 (by omega)
      have g4 := hi 4 (by omega)
      simp [k3] at g0 g1 g2 g3 g4
      obtain ⟨a0, e0, f0, _⟩ := DataW.trod_int Tryd.underlying3 g0
      obtain ⟨a1, e1, f1, _⟩ := DataW.trod_int Tryd.underlying3 g1
      obtain ⟨a2, e2, f2, _⟩ := DataW.trod_int Tryd.underlying3 g2
      obtain ⟨a3, e3, f3, _⟩ := DataW.trod_int Tryd.underlying3 g3
      obtain ⟨a4, e4, f4, _⟩ := DataW.trod_int Tryd.underlying3 g4
      simp at e0 e1 e2 e3 e4
      subst e0 e1 e2 e3 e4 f0 f1 f2 f3 f4
      simp [Rows.laid_hopper_txn_most] at hx
      obtain ⟨⟨r0, r1, r2, r3, r4⟩, _⟩ := hx
      subst r0 r1 r2 r3 r4
      have z0 := World.var?_cell hg hvar 0
      have z1 := World.var?_cell hg hvar 1
      have z2 := World.var?_cell hg hvar 2
      have z3 := World.var?_cell hg hvar 3
      have z4 := World.var?_cell hg hvar 4
      have hz : 0 < W.heap.size := by
        rcases Nat.eq_zero_or_pos W.heap.size with h0 | h0
        · exfalso
          simp [World.cell?, Array.getElem?_eq_none (show W.heap.size ≤ 0 by omega)] at z0
        · exact h0
      exact ⟨by simpa using z0, by simpa using z1, by simpa using z2, by simpa using z3, by simpa using z4, hz⟩
end Go.Proofs.YtjejjgoagjkfdaaDoor.txn
namespace Go.Proofs.YtjejjgoagjkfdaaDoor.heapOrders
open Go.RowKit Sx txn queue heap
set_option linter.unusedVariables false
set_option linter.unusedSimpArgs false
set_option maxHeartbeats 4000000 in
set_option maxRecDepth 100000 in
theorem walk (a : Option Addr) (n c : Nat) (l : List Tx) (w : World) (hM : Most w) (h : Sl a n c ∧ n = l.length ∧ At w (pt a n) (cellsL l) ∧ ∀ x ∈ l, Tx.fits x) : Calls Tryd.prog 12 (List.toArray [.slice a n c]) w fun e w' =>  e = .returned (.bool true) ∧ Below w.heap.size w w' := by
  obtain ⟨hs, hn, hrow, hft⟩ := h
  have hn63 := hs.le
  have hd : ∀ x ∈ l, x.d.size ≤ maxLen := fun x hx => (hft x hx).2.2.2.2.2
  refine calls_of_exec env_ok.keeps Tryd.func12 rfl [(10, (line [0, 1, 2, 3, 4, 6, 7, 8, 9, 10, 5, 11, 12, 13, 14, 15, 16, 17, 18, 19, 20, 21, 22, 23, 24, 25, 26, 27, 28, 29, 30, 31, 32, 33, 34, 35, 36, 37, 38, 39], []))] (schedQ_ok _ _ (by kernel_rfl)) [rowF (pt a n) (cellsL l)] (at1 hrow) ?_
  (conv => arg 5; whnf)
  refine meetc (f := 38) (v := .bool (fewB l && decide ((n : Int) ≤ 40))) rfl (by kernel_rfl) (fun β ρ w' hM' => rfew l a n c 40 w' hs hn (hM'.at_ (.head _))) ?_
  (conv => arg 5; whnf)
  refine wp_br (fun hsm => ?_) (fun hsm => ?_)
  · (conv => arg 5; whnf)
    refine meetc (f := 39) (v := .bool true) rfl (by kernel_rfl) (fun β ρ w' hM' => live w' (hM.later hM'.below)) ?_
    (conv => arg 5; whnf)
    exact wp_back fun β ρ w' hM' => ⟨rfl, hM'.below⟩
  · have hl : l.length ≤ 40 := by simp at hsm; omega
    have lor := ordL_length l
    have OR := fun w hM hr => orderG l a n c w hM hs hn (by omega) hd hr _ rfl
    by_cases h1 : 1 ≤ n
    · have WA := worst_all (l := l) (by omega)
      have hwl := worstTo_lt l n
      have op := ordL_perm l
      have os := ordL_sorted l
      have WO := fun w hM hr => worstG l a n c w hM hs hn (by omega) hd hr _ true rfl (decide_eq_true (by omega))
      have hx := nx_get (l := l) (i := worstTo l n) (by omega)
      have hxm := nx_mem (l := l) (i := worstTo l n) (by omega)
      have hdx := hd _ hxm
      have hdo : ∀ z ∈ ordL l, z.d.size ≤ maxLen := fun z hz => hd z (op.mem_iff.1 hz)
      have CN := fun z => cnt_perm op z
      have nbw : ∀ k, k < n → betterV (nx l (worstTo l n)) (nx (ordL l) k) = false := fun k hk => by
        have := WA.1 _ (op.mem_iff.1 (nx_mem (l := ordL l) (i := k) (by omega)))
        rw [← hn] at this
        exact nB.1 this
      have nbo : ∀ k, 0 < k → k < n → betterV (nx (ordL l) k) (nx (ordL l) (k - 1)) = false := fun k h0 hk => by
        have h1 : k < (ordL l).length := by omega
        have h2 : k - 1 < (ordL l).length := by omega
        rw [nx_lt h1, nx_lt h2]
        exact nB.1 ((List.pairwise_iff_getElem.1 os) (k - 1) k h2 h1 (by omega))
      have hwn : worstTo l n < n := by omega
      clear WA os op
      generalize ordL l = od at *
      generalize hwo : worstTo l n = wo at *
      generalize hxx : nx l wo = x at *
      (conv => arg 5; whnf)
      refine meet1F (f := 50) (n := n) (v := fun a1 c1 => .slice a1 n c1) (xs := cellsL od) rfl (by kernel_rfl) (fun β ρ w' hM' => OR w' (hM.later hM'.below) (hM'.at_ (.head _))) (fun o c_o h_o _ => ?_)
      (conv => arg 5; whnf)
      refine meetc (f := 42) (v := .tuple #[.int .i64 (wo : Nat), .bool true]) rfl (by kernel_rfl) (fun β ρ w' hM' => hwo ▸ WO w' (hM.later hM'.below) (hM'.at_ (.tail _ (.head _)))) ?_
      (conv => arg 5; whnf)
      refine wp_g0 (fun _ => ?_) (fun h => by simp at h)
      (conv => arg 5; whnf)
      refine wp_prim (.bool false) (fun w => by rw [decide_eq_true (show (n : Int) > 0 by omega)]; rfl) ?_
      (conv => arg 5; whnf)
      refine wp_br (fun h => by simp at h; omega) (fun _ => ?_)
      (conv => arg 5; whnf)
      refine loop_rule env_ok.keeps [(10, (line [0, 1, 2, 3, 4, 6, 7, 8, 9, 10, 5, 11, 12, 13, 14, 15, 16, 17, 18, 19, 20, 21, 22, 23, 24, 25, 26, 27, 28, 29, 30, 31, 32, 33, 34, 35, 36, 37, 38, 39], []))] (schedQ_ok _ _ (by kernel_rfl)) (fun k : Nat => k ≤ n) (fun k => (⟨[], [], [rowF (pt o n) (cellsL od), rowF (pt a n) (cellsL l)]⟩, sl 90 [(0, .v (.slice a n c)), (3, .v (.slice o n c_o)), (4, .v (.int .i64 wo)), (6, .v (.int .i64 k))])) (fun k => n - k) 0 (Nat.zero_le _) ⟨by repeat' first | exact trivial | refine ⟨.inl rfl, ?_⟩ | refine ⟨.inr rfl, ?_⟩, ⟨by repeat' first | exact trivial | refine ⟨.inl rfl, ?_⟩ | refine ⟨.inr rfl, ?_⟩, by repeat' first | exact trivial | refine ⟨.inl rfl, ?_⟩ | refine ⟨.inr rfl, ?_⟩, fun _ h => h⟩, rfl⟩ ?_
      intro k hk
      (conv => arg 5; whnf)
      refine wp_br (fun h2 => ?_) (fun h2 => ?_)
      · have hlt : k < n := by simp at h2; omega
        have hz := nx_get (l := od) (i := k) (by omega)
        have hdz := hdo _ (nx_mem (l := od) (i := k) (by omega))
        have CNz := CN (nx od k)
        have b1 := cnt_le l (nx od k)
        have BW := fun w hM => rbetter x (nx od k) w hM hdx hdz
        rw [nbw k hlt] at BW
        have C1 := fun w hM hr => count_ (nx od k) od o n c_o w hM h_o (by omega) (by omega) hdo hr
        have C2 := fun w hM hr => count_ (nx od k) l a n c w hM hs hn (by omega) hd hr
        rw [CNz] at C1
        generalize cnt l (nx od k) = cz at *
        (conv => arg 5; whnf)
        refine wp_must ⟨by omega, by omega, h_o.some hlt⟩ ?_
        (conv => arg 5; whnf)
        refine readX (l := od) (k := k) rfl (.head _) hlt (h_o.some hlt) hz rfl ?_
        (conv => arg 5; whnf)
        refine wp_must ⟨by omega, by omega, h_o.some hlt⟩ ?_
        (conv => arg 5; whnf)
        refine readX (l := od) (k := k) rfl (.head _) hlt (h_o.some hlt) hz rfl ?_
        (conv => arg 5; whnf)
        refine meetc (f := 53) (v := .int .i64 (cz : Nat)) rfl (by kernel_rfl) (fun β ρ w' hM' => C1 w' (hM.later hM'.below) (hM'.at_ (.head _))) ?_
        (conv => arg 5; whnf)
        refine meetc (f := 53) (v := .int .i64 (cz : Nat)) rfl (by kernel_rfl) (fun β ρ w' hM' => C2 w' (hM.later hM'.below) (hM'.at_ (.tail _ (.head _)))) ?_
        (conv => arg 5; whnf)
        refine wp_g0 (fun _ => ?_) (fun h => by simp at h)
        (conv => arg 5; whnf)
        refine wp_g1 (fun h3 => ?_) (fun h3 => ?_)
        · have h0 : 0 < k := by simp at h3; omega
          have hkm : k - 1 < n := by omega
          have hy := nx_get (l := od) (i := k - 1) (by omega)
          have hdy := hdo _ (nx_mem (l := od) (i := k - 1) (by omega))
          have BO := fun w hM => rbetter (nx od k) (nx od (k - 1)) w hM hdz hdy
          rw [nbo k h0 hlt] at BO
          (conv => arg 5; whnf)
          refine wp_must ⟨by omega, by omega, h_o.some hlt⟩ ?_
          (conv => arg 5; whnf)
          refine readX (l := od) (k := k) rfl (.head _) hlt (h_o.some hlt) hz rfl ?_
          (conv => arg 5; whnf)
          refine wp_must ⟨by omega, by omega⟩ ?_
          rw [show (k : Int) - 1 = ((k - 1 : Nat) : Int) by omega]
          (conv => arg 5; whnf)
          refine wp_must ⟨by omega, by omega, h_o.some hkm⟩ ?_
          (conv => arg 5; whnf)
          refine readX (l := od) (k := k - 1) rfl (.head _) hkm (h_o.some hkm) hy rfl ?_
          (conv => arg 5; whnf)
          refine meetc (f := 52) (v := .bool false) rfl (by kernel_rfl) (fun β ρ w' hM' => BO w' (hM.later hM'.below)) ?_
          (conv => arg 5; whnf)
          refine wp_must ⟨by omega, by omega, hs.some hwn⟩ ?_
          (conv => arg 5; whnf)
          refine readX (l := l) (k := wo) rfl (.tail _ (.head _)) hwn (hs.some hwn) hx rfl ?_
          (conv => arg 5; whnf)
          refine wp_must ⟨by omega, by omega, h_o.some hlt⟩ ?_
          (conv => arg 5; whnf)
          refine readX (l := od) (k := k) rfl (.head _) hlt (h_o.some hlt) hz rfl ?_
          (conv => arg 5; whnf)
          refine meetc (f := 52) (v := .bool false) rfl (by kernel_rfl) (fun β ρ w' hM' => BW w' (hM.later hM'.below)) ?_
          (conv => arg 5; whnf)
          refine wp_must ⟨by omega, by omega⟩ ?_
          (conv => arg 5; whnf)
          refine wp_end ⟨k + 1, hlt, ⟨by repeat' first | exact trivial | refine ⟨.inl rfl, ?_⟩ | refine ⟨.inr rfl, ?_⟩, ⟨by repeat' first | exact trivial | refine ⟨.inl rfl, ?_⟩ | refine ⟨.inr rfl, ?_⟩, by repeat' first | exact trivial | refine ⟨.inl rfl, ?_⟩ | refine ⟨.inr rfl, ?_⟩, fun _ h => h⟩, rfl⟩, by show n - (k + 1) < n - k; omega⟩
        · (conv => arg 5; whnf)
          refine wp_must ⟨by omega, by omega, hs.some hwn⟩ ?_
          (conv => arg 5; whnf)
          refine readX (l := l) (k := wo) rfl (.tail _ (.head _)) hwn (hs.some hwn) hx rfl ?_
          (conv => arg 5; whnf)
          refine wp_must ⟨by omega, by omega, h_o.some hlt⟩ ?_
          (conv => arg 5; whnf)
          refine readX (l := od) (k := k) rfl (.head _) hlt (h_o.some hlt) hz rfl ?_
          (conv => arg 5; whnf)
          refine meetc (f := 52) (v := .bool false) rfl (by kernel_rfl) (fun β ρ w' hM' => BW w' (hM.later hM'.below)) ?_
          (conv => arg 5; whnf)
          refine wp_must ⟨by omega, by omega⟩ ?_
          (conv => arg 5; whnf)
          refine wp_end ⟨k + 1, hlt, ⟨by repeat' first | exact trivial | refine ⟨.inl rfl, ?_⟩ | refine ⟨.inr rfl, ?_⟩, ⟨by repeat' first | exact trivial | refine ⟨.inl rfl, ?_⟩ | refine ⟨.inr rfl, ?_⟩, by repeat' first | exact trivial | refine ⟨.inl rfl, ?_⟩ | refine ⟨.inr rfl, ?_⟩, fun _ h => h⟩, rfl⟩, by show n - (k + 1) < n - k; omega⟩
      · (conv => arg 5; whnf)
        refine meetc (f := 39) (v := .bool true) rfl (by kernel_rfl) (fun β ρ w' hM' => live w' (hM.later hM'.below)) ?_
        (conv => arg 5; whnf)
        exact wp_back fun β ρ w' hM' => ⟨rfl, hM'.below⟩
    · have h0 : n = 0 := by omega
      have WO := fun w hM hr => worstG l a n c w hM hs hn (by omega) hd hr 0 false (by rw [h0]; rfl) (by rw [h0]; rfl)
      subst h0
      (conv => arg 5; whnf)
      refine meet1F (f := 50) (n := 0) (v := fun a1 c1 => .slice a1 0 c1) (xs := cellsL (ordL l)) rfl (by kernel_rfl) (fun β ρ w' hM' => OR w' (hM.later hM'.below) (hM'.at_ (.head _))) (fun o c_o h_o _ => ?_)
      (conv => arg 5; whnf)
      refine meetc (f := 42) (v := .tuple #[.int .i64 0, .bool false]) rfl (by kernel_rfl) (fun β ρ w' hM' => WO w' (hM.later hM'.below) (hM'.at_ (.tail _ (.head _)))) ?_
      (conv => arg 5; whnf)
      refine wp_prim (.bool false) (fun w => rfl) ?_
      (conv => arg 5; whnf)
      refine loop_rule env_ok.keeps [(10, (line [0, 1, 2, 3, 4, 6, 7, 8, 9, 10, 5, 11, 12, 13, 14, 15, 16, 17, 18, 19, 20, 21, 22, 23, 24, 25, 26, 27, 28, 29, 30, 31, 32, 33, 34, 35, 36, 37, 38, 39], []))] (schedQ_ok _ _ (by kernel_rfl)) (fun k : Nat => k = 0) (fun k => (⟨[], [], []⟩, sl 90 [(3, .v (.slice o 0 c_o)), (6, .v (.int .i64 0))])) (fun k => 0) 0 rfl ⟨by repeat' first | exact trivial | refine ⟨.inl rfl, ?_⟩ | refine ⟨.inr rfl, ?_⟩, ⟨by repeat' first | exact trivial | refine ⟨.inl rfl, ?_⟩ | refine ⟨.inr rfl, ?_⟩, by repeat' first | exact trivial | refine ⟨.inl rfl, ?_⟩ | refine ⟨.inr rfl, ?_⟩, fun φ h => by cases h⟩, rfl⟩ ?_
      intro k hk
      (conv => arg 5; whnf)
      refine meetc (f := 39) (v := .bool true) rfl (by kernel_rfl) (fun β ρ w' hM' => live w' (hM.later hM'.below)) ?_
      (conv => arg 5; whnf)
      exact wp_back fun β ρ w' hM' => ⟨rfl, hM'.below⟩
end Go.Proofs.YtjejjgoagjkfdaaDoor.heapOrders
namespace Go.Proofs.YtjejjgoagjkfdaaDoor.heapOrders
open Go.ChangeShapes Go.WideShapes Go.ChangeAt Go.RowKit
open Go.ChangeMaps (open_string shut_string)
set_option linter.unusedVariables false

theorem own : ownKnob Tryd.prog.godebug = none := by kernel_rfl
theorem laidOut : laidOutB Tryd.prog = true := by kernel_rfl

/-- A world in which the list of bounds lies as it was laid. -/
noncomputable def laidWorld (os : Os) : World :=
  let w0 := World.holding Tryd.prog os ⟨#[], #[], []⟩
  { w0 with heap := w0.heap.modify 0 fun
      | .cells _ t frozen => .cells #[.int .i64 255, .int .i64 4294967295, .int .i64 1099511627776, .int .i64 1099511627776, .int .i64 1073741824] t frozen
      | o => o }
theorem laid_met (os : Os) (args : Array Value) : laidMet Tryd.prog Rows.heapOrdersRow.laid ((laidWorld os).forCall (fun _ _ => 0) ⟨#[], args, []⟩).memory :=
  laidMet_of_run (ps := [.cell 0 0, .cell 0 1, .cell 0 2, .cell 0 3, .cell 0 4]) 8 (by kernel_rfl) (by kernel_rfl) (by kernel_rfl)

set_option maxRecDepth 100000 in
theorem lifted (os : Os) (started : os.Started) (H : Type) (enc : TypeId × Value → H) :
    ReturnsInHanded {} Tryd.checked os 12 .any (fun w args => (Rows.heapOrdersSpec.pre enc Tryd.prog Tryd.f12 Rows.heapOrdersRow.domain false w args ∧ laidMet Tryd.prog Rows.heapOrdersRow.laid w) ∧ sizedMet enc Tryd.prog Tryd.f12 (OpenSpec.ofChange Rows.heapOrdersSpec) false w args) (Rows.heapOrdersSpec.post enc Tryd.prog Tryd.f12 false true false false) := by
  refine returnsInHanded_of_change_and (C := Tryd.checked) (X := fun w _ => laidMet Tryd.prog Rows.heapOrdersRow.laid w) (fun _ _ _ hh h => h.of_heap hh) own started (by kernel_rfl) Tryd.func12
    (ChangeSpec.witness_at (enc := enc) (C := Tryd.checked) (os := os) (X := fun w _ => laidMet Tryd.prog Rows.heapOrdersRow.laid w) false (laidWorld os) #[.slice none 0 0] 8 rfl (by kernel_rfl) (by kernel_rfl) (by kernel_rfl) (by kernel_rfl) (by kernel_rfl) (laid_met os _)) ?_
  intro W base args ds gs before hval0 hW hcnd _ hL _
  have hval : ∀ (j : Nat) t v, Tryd.f12.params[j]? = some t → args[j]? = some v → Value.okWide Tryd.prog W .any base t v := hval0
  have hW' := hW
  obtain ⟨p, q, hA0, hV, rfl, hfz, hnd⟩ := hW
  have hA : DataW.TrodAll enc Tryd.prog W 0 (fun _ => true) true Tryd.f12.params.toList args.toList ds p := hA0
  rw [Tryd.params12] at hA hval
  obtain ⟨v0, vs0, d0, ds0, p0, q0, hargs, rfl, rfl, h0, r0⟩ := trodAll_cons hA
  obtain ⟨rfl, rfl, rfl⟩ := trodAll_nil r0
  obtain rfl : args = #[v0] := by cases args; simp_all
  obtain ⟨rfl, rfl⟩ := trodVars_none hV
  have k0 := h0
  have lt0 : ∀ x ∈ p0, x.block < W.heap.size := by obtain ⟨m, hm⟩ := k0; exact DataW.trod_lt m _ _ _ hm
  obtain ⟨a0, n0, c0, l0, rfl, f0⟩ := queue.open_txs (hval 0 22 v0 rfl rfl) h0
  clear hA0 hval0
  have hM : txn.Most W := txn.most_of_laid hL
  refine (walk a0 n0 c0 l0 W hM f0).mono fun e W' ⟨he, bel⟩ => ?_
  subst he
  exact ⟨_, rfl, _, _, _, [], _, [], hW', trodAll_mk1 (shut_bool Tryd.underlying4 _), (trodAll_cons_mk (Below.trod laidOut (by kernel_rfl) (of_decide_eq_true (by kernel_rfl)) k0 bel lt0) trodAll_mk0), rfl, bel.frame _, fun h => by cases h⟩

theorem over : Rows.HeapOrdersSaid :=
  OpenClaim.holds_of_wide 12 Tryd.f12 rfl rfl rfl rfl rfl rfl rfl ⟨rfl, rfl, rfl, rfl, rfl⟩ rfl rfl rfl rfl rfl (by kernel_rfl) Tryd.func12 (by kernel_rfl)
    (of_decide_eq_true (by kernel_rfl)) (by unfold Func.isWrapper; first | (rw [if_pos (by decide +kernel)]; kernel_rfl) | (rw [if_neg (by decide +kernel)]; exact ⟨rfl, rfl⟩))
    (fun os started H enc _ => lifted os started H enc)

/-- THE STATEMENT. -/
theorem proved : Rows.HeapOrdersCardSaid :=
  Claim7.holds_tied_plain_at .later [] [.data] true (true, "7b43f0632fcd048b6f8d684439df47e40f777b51c5ba6c01f50c9ec08b270201") false
    over (fun _ h => by cases h) (by kernel_rfl) (fun _ h => by cases h) heapOrders_row_tie rfl ⟨rfl, rfl⟩ (by kernel_rfl) rfl
    (fun f fn hf hfn => by
      obtain rfl : f = 12 := (Option.some.inj ((show Tryd.prog.funcNamed "hopper/hopperlaw06.HeapOrders" = some 12 by kernel_rfl).symm.trans hf)).symm
      obtain rfl : fn = Tryd.f12 := (Option.some.inj (Tryd.func12.symm.trans hfn)).symm
      exact ⟨by kernel_rfl, fun j t ht => by
        rw [Tryd.params12] at ht
        match j, ht with
        | 0, ht =>
          obtain rfl : t = 22 := by simpa using ht.symm
          exact (show Tryd.prog.wantsStandIn 22 = false by kernel_rfl)
        | j + 1, ht => simp at ht⟩)
    (by kernel_rfl)
#print axioms proved
end Go.Proofs.YtjejjgoagjkfdaaDoor.heapOrders
