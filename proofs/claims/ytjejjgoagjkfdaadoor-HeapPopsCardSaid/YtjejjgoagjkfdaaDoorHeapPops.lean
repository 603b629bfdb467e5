/- hopper/hopperlaw06.HeapPops answers true at every input, and every argument reads behind the call as it read before; hopper/txn.most holds what the program's text lays there: the card ties it. No other condition. -/
import Derived.Test.YtjejjgoagjkfdaaDoorRows
import Derived.Test.YtjejjgoagjkfdaaDoorTxn
import Derived.OpenShut
import Derived.ChangeOld
import Derived.LaidLaws
import Derived.Test.YtjejjgoagjkfdaaDoorHeapN
import Derived.Test.YtjejjgoagjkfdaaDoorQueueOpen
import Derived.Test.YtjejjgoagjkfdaaDoorCards
import Derived.Test.YtjejjgoagjkfdaaDoorTie
import Derived.WalkKit
import Derived.ProofKit
import Derived.ShutString
import Derived.Below
import Derived.Handed
import Derived.SevenTiedAt
namespace Go.Proofs.YtjejjgoagjkfdaaDoor.txn
open Go.RowKit Go.ChangeShapes Go.WideShapes
set_option linter.unusedVariables false

set_option maxRecDepth 100000 in
/-- From what is laid to the cells that Check reads. -/
theorem most_of_laid {W : World} (h : laidMet Tryd.prog [("hopper/txn.most", Rows.laid_hopper_txn_most)] W) : Most W := by
  obtain ⟨ps, ⟨g, t, cs, fuel, p, q, hg, ht, hvar, hd, _, _⟩, _⟩ := h
  obtain rfl := Option.some.inj ((show Tryd.prog.globalNamed "hopper/txn.most" = some 0 by kernel_rfl).symm.trans hg)
  obtain rfl := Option.some.inj ((show (Tryd.prog.globals[0]?).map (·.type) = some 83 by kernel_rfl).symm.trans ht)
  obtain ⟨xs, m, _, hx, hlen, hn, hi⟩ := DataW.trod_array Tryd.underlying83 hd
  have h5 : cs.toList.length = 5 := hlen.trans (by kernel_rfl)
  obtain ⟨l⟩ := cs
  match l, h5 with
  | [c0, c1, c2, c3, c4], _ =>
    match xs, hn with
    | [y0, y1, y2, y3, y4], _ =>
      have k3 : Tryd.prog.cellsOf 3 = 1 := by kernel_rfl
      have g0 := hi 0 (by omega)
      have g1 := hi 1 (by omega)
      have g2 := hi 2 (by omega)
      have g3 := hi 3 (by omega)
      have g4 := hi 4 (by omega)
      simp [k3] at g0 g1 g2 g3 g4
      obtain ⟨a0, e0, f0, _⟩ := DataW.trod_int Tryd.underlying3 g0
      obtain ⟨a1, e1, f1, _⟩ := DataW.trod_int Tryd.underlying3 g1
      obtain ⟨a2, e2, f2, _⟩ := DataW.trod_int Tryd.underlying3 g2
      obtain ⟨a3, e3, f3, _⟩ := DataW.trod_int Tryd.underlying3 g3
      obtain ⟨a4, e4, f4, _⟩ := DataW.trod_int Tryd.underlying3 g4
      simp at e0 e1 e2 e3 e4
      subst e0 e1 e2 e3 e4 f0 f1 f2 f3 f4
      simp [Rows.laid_hopper_txn_most] at hx
      obtain ⟨⟨r0, r1, r2, r3, r4⟩, _⟩ := hx
      subst r0 r1 r2 r3 r4
      have z0 := World.var?_cell hg hvar 0
      have z1 := World.var?_cell hg hvar 1
      have z2 := World.var?_cell hg hvar 2
      have z3 := World.var?_cell hg hvar 3
      have z4 := World.var?_cell hg hvar 4
      have hz : 0 < W.heap.size := by
        rcases Nat.eq_zero_or_pos W.heap.size with h0 | h0
        · exfalso
          simp [World.cell?, Array.getElem?_eq_none (show W.heap.size ≤ 0 by omega)] at z0
        · exact h0
      exact ⟨by simpa using z0, by simpa using z1, by simpa using z2, by simpa using z3, by simpa using z4, hz⟩
end Go.Proofs.YtjejjgoagjkfdaaDoor.txn
namespace Go.Proofs.YtjejjgoagjkfdaaDoor.heapPops
open Go.RowKit Sx txn queue heap
set_option linter.unusedVariables false
set_option linter.unusedSimpArgs false
set_option maxHeartbeats 4000000 in
set_option maxRecDepth 100000 in
theorem walk (a : Option Addr) (n c : Nat) (l : List Tx) (w : World) (hM : Most w) (h : Sl a n c ∧ n = l.length ∧ At w (pt a n) (cellsL l) ∧ ∀ x ∈ l, Tx.fits x) : Calls Tryd.prog 14 (List.toArray [.slice a n c]) w fun e w' =>  e = .returned (.bool true) ∧ Below w.heap.size w w' := by
  obtain ⟨hs, hn, hrow, hft⟩ := h
  have hn63 := hs.le
  have hd : ∀ x ∈ l, x.d.size ≤ maxLen := fun x hx => (hft x hx).2.2.2.2.2
  refine calls_of_exec env_ok.keeps Tryd.func14 rfl [(11, (line [0, 1, 2, 3, 4, 5, 6, 7, 8, 9, 10, 11, 12, 13, 14], []))] (schedQ_ok _ _ (by kernel_rfl)) [rowF (pt a n) (cellsL l)] (at1 hrow) ?_
  (conv => arg 5; whnf)
  refine meetc (f := 38) (v := .bool (fewB l && decide ((n : Int) ≤ 40))) rfl (by kernel_rfl) (fun β ρ w' hM' => rfew l a n c 40 w' hs hn (hM'.at_ (.head _))) ?_
  (conv => arg 5; whnf)
  refine wp_br (fun hsm => ?_) (fun hsm => ?_)
  · (conv => arg 5; whnf)
    refine meetc (f := 39) (v := .bool true) rfl (by kernel_rfl) (fun β ρ w' hM' => live w' (hM.later hM'.below)) ?_
    (conv => arg 5; whnf)
    exact wp_back fun β ρ w' hM' => ⟨rfl, hM'.below⟩
  · have hl : l.length ≤ 40 := by simp at hsm; omega
    have lor := ordL_length l
    have lmk := makeL_length l
    have hor0 : ordGo n (makeL l) = (ordL l).drop 0 := by unfold ordL; rw [← hn]; rfl
    have OR := fun w hM hr => orderG l a n c w hM hs hn (by omega) hd hr _ rfl
    have MK := fun w hM hr => makeG l a n c w hM hs hn (by omega) hd hr _ rfl
    have hmh := make_heap l
    have hdm : ∀ z ∈ makeL l, z.d.size ≤ maxLen := fun z hz => hd z ((makeL_perm l).mem_iff.1 hz)
    generalize ordL l = od at *
    generalize makeL l = mk at *
    have CK := fun m c w hM (hs : Sl m n c) hr => checkG mk m n c w hM hs (by omega) (by omega) hdm hr true hmh
    (conv => arg 5; whnf)
    refine meet1F (f := 48) (n := n) (v := fun a1 c1 => .slice a1 n c1) (xs := cellsL mk) rfl (by kernel_rfl) (fun β ρ w' hM' => MK w' (hM.later hM'.below) (hM'.at_ (.head _))) (fun m c_m h_m _ => ?_)
    (conv => arg 5; whnf)
    refine meet1F (f := 50) (n := n) (v := fun a1 c1 => .slice a1 n c1) (xs := cellsL od) rfl (by kernel_rfl) (fun β ρ w' hM' => OR w' (hM.later hM'.below) (hM'.at_ (.tail _ (.head _)))) (fun o c_o h_o _ => ?_)
    (conv => arg 5; whnf)
    refine meetc (f := 44) (v := .bool true) rfl (by kernel_rfl) (fun β ρ w' hM' => CK m c_m w' (hM.later hM'.below) h_m (hM'.at_ (.tail _ (.head _)))) ?_
    (conv => arg 5; whnf)
    refine wp_g0 (fun _ => ?_) (fun h => by simp at h)
    (conv => arg 5; whnf)
    refine wp_br (fun h => by simp at h) (fun _ => ?_)
    (conv => arg 5; whnf)
    refine loop_rule env_ok.keeps [(11, (line [0, 1, 2, 3, 4, 5, 6, 7, 8, 9, 10, 11, 12, 13, 14], []))] (schedQ_ok _ _ (by kernel_rfl)) (fun q : Nat × List Tx × One => q.1 ≤ n ∧ q.2.1.length = n - q.1 ∧ Sl q.2.2.1 (n - q.1) q.2.2.2 ∧ heapV q.2.1 = true ∧ (∀ z ∈ q.2.1, z.d.size ≤ maxLen) ∧ ordGo (n - q.1) q.2.1 = od.drop q.1) (fun q => (⟨[], [], [rowF (pt q.2.2.1 (n - q.1)) (cellsL q.2.1), rowF (pt o n) (cellsL od)]⟩, sl 91 [(0, .v (.slice a n c)), (3, .v (.slice q.2.2.1 (n - q.1) q.2.2.2)), (4, .v (.slice o n c_o)), (5, .v (.int .i64 q.1))])) (fun q => n - q.1) (0, mk, (m, c_m)) ⟨Nat.zero_le _, by show mk.length = n - 0; omega, h_m, hmh, hdm, hor0⟩ ⟨by repeat' first | exact trivial | refine ⟨.inl rfl, ?_⟩ | refine ⟨.inr rfl, ?_⟩, ⟨by repeat' first | exact trivial | refine ⟨.inl rfl, ?_⟩ | refine ⟨.inr rfl, ?_⟩, by repeat' first | exact trivial | refine ⟨.inl rfl, ?_⟩ | refine ⟨.inr rfl, ?_⟩, fun φ h => by rcases List.mem_cons.1 h with rfl | h; exact .tail _ (.head _); (rcases List.mem_cons.1 h with rfl | h; exact .head _; cases h)⟩, rfl⟩ ?_
    rintro ⟨k, hl', a', c'⟩ ⟨hk, hlen, hs', hhv, hd', hog⟩
    have hk : k ≤ n := hk
    have hlen : hl'.length = n - k := hlen
    have hs' : Sl a' (n - k) c' := hs'
    have hhv : heapV hl' = true := hhv
    have hd' : ∀ z ∈ hl', z.d.size ≤ maxLen := hd'
    have hog : ordGo (n - k) hl' = od.drop k := hog
    (conv => arg 5; whnf)
    refine wp_br (fun h2 => ?_) (fun h2 => ?_)
    · have hlt : k < n := by have h3 := of_decide_eq_true (show decide ((k : Int) < (n : Int)) = true from h2); omega
      have hne : hl' ≠ [] := by intro h; rw [h] at hlen; simp at hlen; omega
      have hpl := popL_length hl'
      have hst : ordGo (n - k) hl' = nx hl' 0 :: ordGo (n - (k + 1)) (popL hl') := by
        rw [show n - k = n - (k + 1) + 1 by omega]; rfl
      have hz := nx_get (l := od) (i := k) (by omega)
      have hdrop : od.drop k = nx od k :: od.drop (k + 1) := by
        rw [List.drop_eq_getElem_cons (by omega), nx_lt (by omega)]
      rw [hst, hdrop] at hog
      have hz0 : nx hl' 0 = nx od k := (List.cons.inj hog).1
      have hog2 := (List.cons.inj hog).2
      have hph := pop_heap hhv
      have hdp : ∀ z ∈ popL hl', z.d.size ≤ maxLen := fun z hz => hd' z (popL_mem hne z hz)
      have PO := fun w hM hr => pop_ hl' a' (n - k) c' w hM hs' hlen.symm (by omega) hd' hr (by omega)
      rw [hz0, show n - k - 1 = n - (k + 1) by omega] at PO
      have hplk : (popL hl').length = n - (k + 1) := by omega
      have CK2 := fun m c w hM (hs : Sl m (n - (k + 1)) c) hr => checkG (popL hl') m (n - (k + 1)) c w hM hs hplk.symm (by omega) hdp hr true hph
      (conv => arg 5; whnf)
      refine meet1F (f := 40) (n := n - (k + 1)) (v := fun a1 c1 => .tuple #[.slice a1 (n - (k + 1)) c1, (nx od k).val, .bool true]) (xs := cellsL (popL hl')) rfl (by kernel_rfl) (fun β ρ w' hM' => PO w' (hM.later hM'.below) (hM'.at_ (.head _))) (fun r c_r h_r _ => ?_)
      (conv => arg 5; whnf)
      refine wp_must ⟨by omega, by show (k : Int) < (n : Int); omega, h_o.some hlt⟩ ?_
      (conv => arg 5; whnf)
      refine readX (l := od) (k := k) rfl (.tail _ (.tail _ (.head _))) hlt (h_o.some hlt) hz rfl ?_
      (conv => arg 5; whnf)
      refine wp_prim (.bool false) (fun w => queue.neq_same _ _ (nx od k) w) ?_
      (conv => arg 5; whnf)
      refine meetc (f := 44) (v := .bool true) rfl (by kernel_rfl) (fun β ρ w' hM' => CK2 r c_r w' (hM.later hM'.below) h_r (hM'.at_ (.head _))) ?_
      (conv => arg 5; whnf)
      refine wp_must ⟨by show -9223372036854775808 ≤ (k : Int) + 1; omega, by show (k : Int) + 1 ≤ 9223372036854775807; omega⟩ ?_
      (conv => arg 5; whnf)
      refine wp_end ⟨(k + 1, popL hl', (r, c_r)), ⟨hlt, hplk, h_r, hph, hdp, hog2⟩, ⟨by repeat' first | exact trivial | refine ⟨.inl rfl, ?_⟩ | refine ⟨.inr rfl, ?_⟩, ⟨by repeat' first | exact trivial | refine ⟨.inl rfl, ?_⟩ | refine ⟨.inr rfl, ?_⟩, by repeat' first | exact trivial | refine ⟨.inl rfl, ?_⟩ | refine ⟨.inr rfl, ?_⟩, fun φ h => by rcases List.mem_cons.1 h with rfl | h; exact .head _; (rcases List.mem_cons.1 h with rfl | h; exact .tail _ (.tail _ (.head _)); cases h)⟩, rfl⟩, by show n - (k + 1) < n - k; omega⟩
    · have hkn : k = n := by have h3 := of_decide_eq_false (show decide ((k : Int) < (n : Int)) = false from h2); omega
      have h0 : n - k = 0 := by omega
      have PZ := fun w => pop_zero a' c' w
      simp only [h0] at *
      (conv => arg 5; whnf)
      refine meetc (f := 40) (v := .tuple #[.slice none 0 0, tx0.val, .bool false]) rfl (by kernel_rfl) (fun β ρ w' hM' => PZ w') ?_
      (conv => arg 5; whnf)
      refine wp_prim (.bool true) (fun w => heap.eq_same _ _ tx0 w) ?_
      (conv => arg 5; whnf)
      refine meetc (f := 39) (v := .bool true) rfl (by kernel_rfl) (fun β ρ w' hM' => live w' (hM.later hM'.below)) ?_
      (conv => arg 5; whnf)
      exact wp_back fun β ρ w' hM' => ⟨rfl, hM'.below⟩
end Go.Proofs.YtjejjgoagjkfdaaDoor.heapPops
namespace Go.Proofs.YtjejjgoagjkfdaaDoor.heapPops
open Go.ChangeShapes Go.WideShapes Go.ChangeAt Go.RowKit
open Go.ChangeMaps (open_string shut_string)
set_option linter.unusedVariables false

theorem own : ownKnob Tryd.prog.godebug = none := by kernel_rfl
theorem laidOut : laidOutB Tryd.prog = true := by kernel_rfl

/-- A world in which the list of bounds lies as it was laid. -/
noncomputable def laidWorld (os : Os) : World :=
  let w0 := World.holding Tryd.prog os ⟨#[], #[], []⟩
  { w0 with heap := w0.heap.modify 0 fun
      | .cells _ t frozen => .cells #[.int .i64 255, .int .i64 4294967295, .int .i64 1099511627776, .int .i64 1099511627776, .int .i64 1073741824] t frozen
      | o => o }
theorem laid_met (os : Os) (args : Array Value) : laidMet Tryd.prog Rows.heapPopsRow.laid ((laidWorld os).forCall (fun _ _ => 0) ⟨#[], args, []⟩).memory :=
  laidMet_of_run (ps := [.cell 0 0, .cell 0 1, .cell 0 2, .cell 0 3, .cell 0 4]) 8 (by kernel_rfl) (by kernel_rfl) (by kernel_rfl)

set_option maxRecDepth 100000 in
theorem lifted (os : Os) (started : os.Started) (H : Type) (enc : TypeId × Value → H) :
    ReturnsInHanded {} Tryd.checked os 14 .any (fun w args => (Rows.heapPopsSpec.pre enc Tryd.prog Tryd.f14 Rows.heapPopsRow.domain false w args ∧ laidMet Tryd.prog Rows.heapPopsRow.laid w) ∧ sizedMet enc Tryd.prog Tryd.f14 (OpenSpec.ofChange Rows.heapPopsSpec) false w args) (Rows.heapPopsSpec.post enc Tryd.prog Tryd.f14 false true false false) := by
  refine returnsInHanded_of_change_and (C := Tryd.checked) (X := fun w _ => laidMet Tryd.prog Rows.heapPopsRow.laid w) (fun _ _ _ hh h => h.of_heap hh) own started (by kernel_rfl) Tryd.func14
    (ChangeSpec.witness_at (enc := enc) (C := Tryd.checked) (os := os) (X := fun w _ => laidMet Tryd.prog Rows.heapPopsRow.laid w) false (laidWorld os) #[.slice none 0 0] 8 rfl (by kernel_rfl) (by kernel_rfl) (by kernel_rfl) (by kernel_rfl) (by kernel_rfl) (laid_met os _)) ?_
  intro W base args ds gs before hval0 hW hcnd _ hL _
  have hval : ∀ (j : Nat) t v, Tryd.f14.params[j]? = some t → args[j]? = some v → Value.okWide Tryd.prog W .any base t v := hval0
  have hW' := hW
  obtain ⟨p, q, hA0, hV, rfl, hfz, hnd⟩ := hW
  have hA : DataW.TrodAll enc Tryd.prog W 0 (fun _ => true) true Tryd.f14.params.toList args.toList ds p := hA0
  rw [Tryd.params14] at hA hval
  obtain ⟨v0, vs0, d0, ds0, p0, q0, hargs, rfl, rfl, h0, r0⟩ := trodAll_cons hA
  obtain ⟨rfl, rfl, rfl⟩ := trodAll_nil r0
  obtain rfl : args = #[v0] := by cases args; simp_all
  obtain ⟨rfl, rfl⟩ := trodVars_none hV
  have k0 := h0
  have lt0 : ∀ x ∈ p0, x.block < W.heap.size := by obtain ⟨m, hm⟩ := k0; exact DataW.trod_lt m _ _ _ hm
  obtain ⟨a0, n0, c0, l0, rfl, f0⟩ := queue.open_txs (hval 0 22 v0 rfl rfl) h0
  clear hA0 hval0
  have hM : txn.Most W := txn.most_of_laid hL
  refine (walk a0 n0 c0 l0 W hM f0).mono fun e W' ⟨he, bel⟩ => ?_
  subst he
  exact ⟨_, rfl, _, _, _, [], _, [], hW', trodAll_mk1 (shut_bool Tryd.underlying4 _), (trodAll_cons_mk (Below.trod laidOut (by kernel_rfl) (of_decide_eq_true (by kernel_rfl)) k0 bel lt0) trodAll_mk0), rfl, bel.frame _, fun h => by cases h⟩

theorem over : Rows.HeapPopsSaid :=
  OpenClaim.holds_of_wide 14 Tryd.f14 rfl rfl rfl rfl rfl rfl rfl ⟨rfl, rfl, rfl, rfl, rfl⟩ rfl rfl rfl rfl rfl (by kernel_rfl) Tryd.func14 (by kernel_rfl)
    (of_decide_eq_true (by kernel_rfl)) (by unfold Func.isWrapper; first | (rw [if_pos (by decide +kernel)]; kernel_rfl) | (rw [if_neg (by decide +kernel)]; exact ⟨rfl, rfl⟩))
    (fun os started H enc _ => lifted os started H enc)

/-- THE STATEMENT. -/
theorem proved : Rows.HeapPopsCardSaid :=
  Claim7.holds_tied_plain_at .later [] [.data] true (true, "7b43f0632fcd048b6f8d684439df47e40f777b51c5ba6c01f50c9ec08b270201") false
    over (fun _ h => by cases h) (by kernel_rfl) (fun _ h => by cases h) heapPops_row_tie rfl ⟨rfl, rfl⟩ (by kernel_rfl) rfl
    (fun f fn hf hfn => by
      obtain rfl : f = 14 := (Option.some.inj ((show Tryd.prog.funcNamed "hopper/hopperlaw06.HeapPops" = some 14 by kernel_rfl).symm.trans hf)).symm
      obtain rfl : fn = Tryd.f14 := (Option.some.inj (Tryd.func14.symm.trans hfn)).symm
      exact ⟨by kernel_rfl, fun j t ht => by
        rw [Tryd.params14] at ht
        match j, ht with
        | 0, ht =>
          obtain rfl : t = 22 := by simpa using ht.symm
          exact (show Tryd.prog.wantsStandIn 22 = false by kernel_rfl)
        | j + 1, ht => simp at ht⟩)
    (by kernel_rfl)
#print axioms proved
end Go.Proofs.YtjejjgoagjkfdaaDoor.heapPops
