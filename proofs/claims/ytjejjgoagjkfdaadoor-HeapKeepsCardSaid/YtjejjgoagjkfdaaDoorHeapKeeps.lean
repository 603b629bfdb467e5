/- hopper/hopperlaw06.HeapKeeps answers true at every input, and every argument reads behind the call as it read before; hopper/txn.most holds what the program's text lays there: the card ties it. No other condition. -/
import Derived.Test.YtjejjgoagjkfdaaDoorRows
import Derived.Test.YtjejjgoagjkfdaaDoorTxn
import Derived.OpenShut
import Derived.ChangeOld
import Derived.LaidLaws
import Derived.Test.YtjejjgoagjkfdaaDoorHeapN
import Derived.Test.YtjejjgoagjkfdaaDoorQueueOpen
import Derived.Test.YtjejjgoagjkfdaaDoorCards
import Derived.Test.YtjejjgoagjkfdaaDoorTie
import Derived.WalkKit
import Derived.ProofKit
import Derived.ShutString
import Derived.Below
import Derived.Handed
import Derived.SevenTiedAt
namespace Go.Proofs.YtjejjgoagjkfdaaDoor.txn
open Go.RowKit Go.ChangeShapes Go.WideShapes
set_option linter.unusedVariables false

set_option maxRecDepth 100000 in
/-- From what is laid to the cells that Check reads. -/
theorem most_of_laid {W : World} (h : laidMet Tryd.prog [("hopper/txn.most", Rows.laid_hopper_txn_most)] W) : Most W := by
  obtain ⟨ps, ⟨g, t, cs, fuel, p, q, hg, ht, hvar, hd, _, _⟩, _⟩ := h
  obtain rfl := Option.some.inj ((show Tryd.prog.globalNamed "hopper/txn.most" = some 0 by kernel_rfl).symm.trans hg)
  obtain rfl := Option.some.inj ((show (Tryd.prog.globals[0]?).map (·.type) = some 83 by kernel_rfl).symm.trans ht)
  obtain ⟨xs, m, _, hx, hlen, hn, hi⟩ := DataW.trod_array Tryd.underlying83 hd
  have h5 : cs.toList.length = 5 := hlen.trans (by kernel_rfl)
  obtain ⟨l⟩ := cs
  match l, h5 with
  | [c0, c1, c2, c3, c4], _ =>
    match xs, hn with
    | [y0, y1, y2, y3, y4], _ =>
      have k3 : Tryd.prog.cellsOf 3 = 1 := by kernel_rfl
      have g0 := hi 0 (by omega)
      have g1 := hi 1 (by omega)
      have g2 := hi 2 (by omega)
      have g3 := hi 3 (by omega)
      have g4 := hi 4 (by omega)
      simp [k3] at g0 g1 g2 g3 g4
      obtain ⟨a0, e0, f0, _⟩ := DataW.trod_int Tryd.underlying3 g0
      obtain ⟨a1, e1, f1, _⟩ := DataW.trod_int Tryd.underlying3 g1
      obtain ⟨a2, e2, f2, _⟩ := DataW.trod_int Tryd.underlying3 g2
      obtain ⟨a3, e3, f3, _⟩ := DataW.trod_int Tryd.underlying3 g3
      obtain ⟨a4, e4, f4, _⟩ := DataW.trod_int Tryd.underlying3 g4
      simp at e0 e1 e2 e3 e4
      subst e0 e1 e2 e3 e4 f0 f1 f2 f3 f4
      simp [Rows.laid_hopper_txn_most] at hx
      obtain ⟨⟨r0, r1, r2, r3, r4⟩, _⟩ := hx
      subst r0 r1 r2 r3 r4
      have z0 := World.var?_cell hg hvar 0
      have z1 := World.var?_cell hg hvar 1
      have z2 := World.var?_cell hg hvar 2
      have z3 := World.var?_cell hg hvar 3
      have z4 := World.var?_cell hg hvar 4
      have hz : 0 < W.heap.size := by
        rcases Nat.eq_zero_or_pos W.heap.size with h0 | h0
        · exfalso
          simp [World.cell?, Array.getElem?_eq_none (show W.heap.size ≤ 0 by omega)] at z0
        · exact h0
      exact ⟨by simpa using z0, by simpa using z1, by simpa using z2, by simpa using z3, by simpa using z4, hz⟩
end Go.Proofs.YtjejjgoagjkfdaaDoor.txn
namespace Go.Proofs.YtjejjgoagjkfdaaDoor.heapKeeps
open Go.RowKit Sx txn queue heap
set_option linter.unusedVariables false
set_option linter.unusedSimpArgs false
set_option maxHeartbeats 4000000 in
set_option maxRecDepth 100000 in
theorem walk (a : Option Addr) (n c : Nat) (l : List Tx) (x : Tx) (w : World) (hM : Most w) (h : Sl a n c ∧ n = l.length ∧ At w (pt a n) (cellsL l) ∧ ∀ x ∈ l, Tx.fits x) (hx : Tx.fits x) : Calls Tryd.prog 15 (List.toArray [.slice a n c, x.val]) w fun e w' =>  e = .returned (.bool true) ∧ Below w.heap.size w w' := by
  obtain ⟨hs, hn, hrow, hft⟩ := h
  have hn63 := hs.le
  have hd : ∀ x ∈ l, x.d.size ≤ maxLen := fun x hx => (hft x hx).2.2.2.2.2
  have hdx : x.d.size ≤ maxLen := hx.2.2.2.2.2
  refine calls_of_exec env_ok.keeps Tryd.func15 rfl [(5, (line [0, 1, 2, 3, 4, 5, 6, 7, 8, 9, 10, 11, 12, 13, 14, 15, 16, 17, 18, 19, 20, 21, 22, 23, 24, 25, 26, 27, 28, 29, 30, 31, 32, 33, 34, 35, 36, 37, 38, 39], [])), (11, (line [0, 1, 2, 3, 4, 5], [])), (14, (line [0, 1, 2, 3, 4, 5, 6, 7], [])), (16, (line [0, 1, 2, 3, 4, 6, 7, 8, 9, 10, 12, 5, 11, 13, 14, 15, 16, 17, 18, 19, 20, 22, 23, 24, 25, 26, 28, 21, 27, 29, 30, 31], [])), (18, (line [0, 1, 3, 4, 2, 5, 6, 7, 8, 9, 10, 11], []))] (schedQ_ok _ _ (by kernel_rfl)) [rowF (pt a n) (cellsL l)] (at1 hrow) ?_
  (conv => arg 5; whnf)
  refine meetc (f := 38) (v := .bool (fewB l && decide ((n : Int) ≤ 40))) rfl (by kernel_rfl) (fun β ρ w' hM' => rfew l a n c 40 w' hs hn (hM'.at_ (.head _))) ?_
  (conv => arg 5; whnf)
  refine wp_g0 (fun hsm => ?_) (fun hsm => ?_)
  · have hl : l.length ≤ 40 := by simp at hsm; omega
    (conv => arg 5; whnf)
    refine meetc (f := 27) (v := .bool (decide (x.d.size ≤ 500))) rfl (by kernel_rfl) (fun β ρ w' hM' => rsmall x w') ?_
    (conv => arg 5; whnf)
    refine wp_br (fun hsx => ?_) (fun hsx => ?_)
    · (conv => arg 5; whnf)
      refine meetc (f := 39) (v := .bool true) rfl (by kernel_rfl) (fun β ρ w' hM' => live w' (hM.later hM'.below)) ?_
      (conv => arg 5; whnf)
      exact wp_back fun β ρ w' hM' => ⟨rfl, hM'.below⟩
    · have lpu := pushL_length l x
      have lpo := popL_length l
      have PU := fun w hM hr => pushG x hdx l a n c w hM hs hn (by omega) hd hr _ rfl
      have hdp : ∀ z ∈ pushL l x, z.d.size ≤ maxLen := fun z hz => by
        rcases List.mem_append.1 (pushL_mem z hz) with h | h
        · exact hd z h
        · simp only [List.mem_singleton] at h; subst h; exact hdx
      have CP := cnt_push l x
      by_cases h1 : 1 ≤ n
      · have hne : l ≠ [] := by intro h0; rw [h0] at hn; simp at hn; omega
        have PO := fun w hM hr => pop_ l a n c w hM hs hn (by omega) hd hr h1
        have hdq : ∀ z ∈ popL l, z.d.size ≤ maxLen := fun z hz => hd z (popL_mem hne z hz)
        have CQ := cnt_pop (l := l) (by omega)
        have hy0 := nx_get (l := l) (i := 0) (by omega)
        generalize pushL l x = pu at *
        generalize popL l = po at *
        (conv => arg 5; whnf)
        refine meet1F (f := 46) (n := l.length + 1) (v := fun a1 c1 => .slice a1 (l.length + 1) c1) (xs := cellsL pu) rfl (by kernel_rfl) (fun β ρ w' hM' => PU w' (hM.later hM'.below) (hM'.at_ (.head _))) (fun p c_p h_p _ => ?_)
        (conv => arg 5; whnf)
        refine meet1F (f := 40) (n := n - 1) (v := fun a1 c1 => .tuple #[.slice a1 (n - 1) c1, (nx l 0).val, .bool true]) (xs := cellsL po) rfl (by kernel_rfl) (fun β ρ w' hM' => PO w' (hM.later hM'.below) (hM'.at_ (.tail _ (.head _)))) (fun q c_q h_q _ => ?_)
        (conv => arg 5; whnf)
        refine wp_must ⟨by omega, by omega⟩ ?_
        (conv => arg 5; whnf)
        refine wp_g0 (fun _ => ?_) (fun h => by simp at h; omega)
        (conv => arg 5; whnf)
        refine wp_prim (.bool false) (fun w => by rw [decide_eq_true (show (n : Int) > 0 by omega)]; rfl) ?_
        (conv => arg 5; whnf)
        refine wp_must ⟨by omega, by omega, hs.some h1⟩ ?_
        (conv => arg 5; whnf)
        refine readX (l := l) (k := 0) rfl (.tail _ (.tail _ (.head _))) h1 (hs.some h1) hy0 rfl ?_
        (conv => arg 5; whnf)
        refine wp_prim (.bool false) (fun w => queue.neq_same _ _ (nx l 0) w) ?_
        (conv => arg 5; whnf)
        refine wp_must ⟨by omega, by omega⟩ ?_
        (conv => arg 5; whnf)
        refine wp_g0 (fun _ => ?_) (fun h => by rw [show ((n - 1 : Nat) : Int) = (n : Int) - 1 by omega] at h; simp at h)
        have hsym : ∀ u v : Tx, sameT u v = sameT v u := fun u v => by
          cases h1 : sameT u v with
          | true => rw [(sameT_iff u v).1 h1]; exact (sameT_self v).symm
          | false => cases h2 : sameT v u with
            | false => rfl
            | true => rw [(sameT_iff v u).1 h2, sameT_self] at h1; cases h1
        (conv => arg 5; whnf)
        refine loop_rule env_ok.keeps [(5, (line [0, 1, 2, 3, 4, 5, 6, 7, 8, 9, 10, 11, 12, 13, 14, 15, 16, 17, 18, 19, 20, 21, 22, 23, 24, 25, 26, 27, 28, 29, 30, 31, 32, 33, 34, 35, 36, 37, 38, 39], [])), (11, (line [0, 1, 2, 3, 4, 5], [])), (14, (line [0, 1, 2, 3, 4, 5, 6, 7], [])), (16, (line [0, 1, 2, 3, 4, 6, 7, 8, 9, 10, 12, 5, 11, 13, 14, 15, 16, 17, 18, 19, 20, 22, 23, 24, 25, 26, 28, 21, 27, 29, 30, 31], [])), (18, (line [0, 1, 3, 4, 2, 5, 6, 7, 8, 9, 10, 11], []))] (schedQ_ok _ _ (by kernel_rfl)) (fun k : Nat => k ≤ n) (fun k => (⟨[some ([.v (.int .i64 x.s), .v (.int .i64 x.n), .v (.int .i64 x.t), .v (.int .i64 x.c), .v (.int .i64 x.g), .v (.string x.d)], 28), some ([.v (.int .i64 (nx l 0).s), .v (.int .i64 (nx l 0).n), .v (.int .i64 (nx l 0).t), .v (.int .i64 (nx l 0).c), .v (.int .i64 (nx l 0).g), .v (.string (nx l 0).d)], 28)], [], [rowF (pt q (n - 1)) (cellsL po), rowF (pt p (l.length + 1)) (cellsL pu), rowF (pt a n) (cellsL l)]⟩, sl 133 [(0, .v (.slice a n c)), (3, .p 0 0), (5, .v (.slice p (l.length + 1) c_p)), (6, .v (.slice q (n - 1) c_q)), (9, .v (.int .i64 k))])) (fun k => n - k) 0 (Nat.zero_le _) ⟨by repeat' first | exact trivial | refine ⟨.inl rfl, ?_⟩ | refine ⟨.inr rfl, ?_⟩, ⟨by repeat' first | exact trivial | refine ⟨.inl rfl, ?_⟩ | refine ⟨.inr rfl, ?_⟩, by repeat' first | exact trivial | refine ⟨.inl rfl, ?_⟩ | refine ⟨.inr rfl, ?_⟩, fun _ h => h⟩, rfl⟩ ?_
        intro k hk
        (conv => arg 5; whnf)
        refine wp_br (fun h1' => ?_) (fun h1' => ?_)
        · have hlt : k < n := by simp at h1'; omega
          have hz := nx_get (l := l) (i := k) (by omega)
          have hdz := hd _ (nx_mem (l := l) (i := k) (by omega))
          have CPz := CP (nx l k)
          have CQz := CQ (nx l k)
          rw [hsym x] at CPz
          rw [hsym (nx l 0)] at CQz
          have b1 := cnt_le l (nx l k)
          have b2 := cnt_le pu (nx l k)
          have b3 := cnt_le po (nx l k)
          generalize nx l k = z at *
          generalize hc1 : cnt l z = c1 at *
          generalize hc2 : cnt pu z = c2 at *
          generalize hc3 : cnt po z = c3 at *
          (conv => arg 5; whnf)
          refine wp_must ⟨by omega, by omega, hs.some hlt⟩ ?_
          (conv => arg 5; whnf)
          refine readX (l := l) (k := k) rfl (.tail _ (.tail _ (.head _))) hlt (hs.some hlt) hz rfl ?_
          (conv => arg 5; whnf)
          refine wp_prim (.bool (sameT z x)) (fun w => eq_any _ _ z x w) ?_
          (conv => arg 5; whnf)
          refine wp_br (fun e1 => ?_) (fun e1 => ?_)
          · (conv => arg 5; whnf)
            refine wp_must ⟨by omega, by omega, hs.some hlt⟩ ?_
            (conv => arg 5; whnf)
            refine readX (l := l) (k := k) rfl (.tail _ (.tail _ (.head _))) hlt (hs.some hlt) hz rfl ?_
            (conv => arg 5; whnf)
            refine wp_must ⟨by omega, by omega, hs.some h1⟩ ?_
            (conv => arg 5; whnf)
            refine readX (l := l) (k := 0) rfl (.tail _ (.tail _ (.head _))) h1 (hs.some h1) hy0 rfl ?_
            (conv => arg 5; whnf)
            refine wp_prim (.bool (sameT z (nx l 0))) (fun w => eq_any _ _ z (nx l 0) w) ?_
            (conv => arg 5; whnf)
            refine wp_br (fun e2 => ?_) (fun e2 => ?_)
            · rw [if_pos e1] at CPz
              rw [if_pos e2] at CQz
              (conv => arg 5; whnf)
              refine wp_must ⟨by omega, by omega, hs.some hlt⟩ ?_
              (conv => arg 5; whnf)
              refine readX (l := l) (k := k) rfl (.tail _ (.tail _ (.head _))) hlt (hs.some hlt) hz rfl ?_
              (conv => arg 5; whnf)
              refine wp_must ⟨by omega, by omega, hs.some hlt⟩ ?_
              (conv => arg 5; whnf)
              refine readX (l := l) (k := k) rfl (.tail _ (.tail _ (.head _))) hlt (hs.some hlt) hz rfl ?_
              (conv => arg 5; whnf)
              refine meetc (f := 53) (v := .int .i64 (c2 : Nat)) rfl (by kernel_rfl) (fun β ρ w' hM' => hc2 ▸ count_ z pu p (l.length + 1) c_p w' (hM.later hM'.below) h_p lpu.symm (by omega) hdp (hM'.at_ (.tail _ (.head _)))) ?_
              (conv => arg 5; whnf)
              refine meetc (f := 53) (v := .int .i64 (c1 : Nat)) rfl (by kernel_rfl) (fun β ρ w' hM' => hc1 ▸ count_ z l a n c w' (hM.later hM'.below) hs hn (by omega) hd (hM'.at_ (.tail _ (.tail _ (.head _))))) ?_
              (conv => arg 5; whnf)
              refine wp_must ⟨by omega, by omega⟩ ?_
              (conv => arg 5; whnf)
              refine wp_g0 (fun _ => ?_) (fun h => by simp at h; omega)
              (conv => arg 5; whnf)
              refine wp_must ⟨by omega, by omega, hs.some hlt⟩ ?_
              (conv => arg 5; whnf)
              refine readX (l := l) (k := k) rfl (.tail _ (.tail _ (.head _))) hlt (hs.some hlt) hz rfl ?_
              (conv => arg 5; whnf)
              refine wp_must ⟨by omega, by omega, hs.some hlt⟩ ?_
              (conv => arg 5; whnf)
              refine readX (l := l) (k := k) rfl (.tail _ (.tail _ (.head _))) hlt (hs.some hlt) hz rfl ?_
              (conv => arg 5; whnf)
              refine meetc (f := 53) (v := .int .i64 (c3 : Nat)) rfl (by kernel_rfl) (fun β ρ w' hM' => hc3 ▸ count_ z po q (n - 1) c_q w' (hM.later hM'.below) h_q (by omega) (by omega) hdq (hM'.at_ (.head _))) ?_
              (conv => arg 5; whnf)
              refine meetc (f := 53) (v := .int .i64 (c1 : Nat)) rfl (by kernel_rfl) (fun β ρ w' hM' => hc1 ▸ count_ z l a n c w' (hM.later hM'.below) hs hn (by omega) hd (hM'.at_ (.tail _ (.tail _ (.head _))))) ?_
              (conv => arg 5; whnf)
              refine wp_must ⟨by omega, by omega⟩ ?_
              (conv => arg 5; whnf)
              refine wp_br (fun h => by simp at h; omega) (fun _ => ?_)
              (conv => arg 5; whnf)
              refine wp_must ⟨by omega, by omega⟩ ?_
              (conv => arg 5; whnf)
              refine wp_end ⟨k + 1, hlt, ⟨by repeat' first | exact trivial | refine ⟨.inl rfl, ?_⟩ | refine ⟨.inr rfl, ?_⟩, ⟨by repeat' first | exact trivial | refine ⟨.inl rfl, ?_⟩ | refine ⟨.inr rfl, ?_⟩, by repeat' first | exact trivial | refine ⟨.inl rfl, ?_⟩ | refine ⟨.inr rfl, ?_⟩, fun _ h => h⟩, rfl⟩, by show n - (k + 1) < n - k; omega⟩
            · rw [if_pos e1] at CPz
              rw [if_neg (by rw [e2]; simp)] at CQz
              (conv => arg 5; whnf)
              refine wp_must ⟨by omega, by omega, hs.some hlt⟩ ?_
              (conv => arg 5; whnf)
              refine readX (l := l) (k := k) rfl (.tail _ (.tail _ (.head _))) hlt (hs.some hlt) hz rfl ?_
              (conv => arg 5; whnf)
              refine wp_must ⟨by omega, by omega, hs.some hlt⟩ ?_
              (conv => arg 5; whnf)
              refine readX (l := l) (k := k) rfl (.tail _ (.tail _ (.head _))) hlt (hs.some hlt) hz rfl ?_
              (conv => arg 5; whnf)
              refine meetc (f := 53) (v := .int .i64 (c2 : Nat)) rfl (by kernel_rfl) (fun β ρ w' hM' => hc2 ▸ count_ z pu p (l.length + 1) c_p w' (hM.later hM'.below) h_p lpu.symm (by omega) hdp (hM'.at_ (.tail _ (.head _)))) ?_
              (conv => arg 5; whnf)
              refine meetc (f := 53) (v := .int .i64 (c1 : Nat)) rfl (by kernel_rfl) (fun β ρ w' hM' => hc1 ▸ count_ z l a n c w' (hM.later hM'.below) hs hn (by omega) hd (hM'.at_ (.tail _ (.tail _ (.head _))))) ?_
              (conv => arg 5; whnf)
              refine wp_must ⟨by omega, by omega⟩ ?_
              (conv => arg 5; whnf)
              refine wp_g0 (fun _ => ?_) (fun h => by simp at h; omega)
              (conv => arg 5; whnf)
              refine wp_must ⟨by omega, by omega, hs.some hlt⟩ ?_
              (conv => arg 5; whnf)
              refine readX (l := l) (k := k) rfl (.tail _ (.tail _ (.head _))) hlt (hs.some hlt) hz rfl ?_
              (conv => arg 5; whnf)
              refine wp_must ⟨by omega, by omega, hs.some hlt⟩ ?_
              (conv => arg 5; whnf)
              refine readX (l := l) (k := k) rfl (.tail _ (.tail _ (.head _))) hlt (hs.some hlt) hz rfl ?_
              (conv => arg 5; whnf)
              refine meetc (f := 53) (v := .int .i64 (c3 : Nat)) rfl (by kernel_rfl) (fun β ρ w' hM' => hc3 ▸ count_ z po q (n - 1) c_q w' (hM.later hM'.below) h_q (by omega) (by omega) hdq (hM'.at_ (.head _))) ?_
              (conv => arg 5; whnf)
              refine meetc (f := 53) (v := .int .i64 (c1 : Nat)) rfl (by kernel_rfl) (fun β ρ w' hM' => hc1 ▸ count_ z l a n c w' (hM.later hM'.below) hs hn (by omega) hd (hM'.at_ (.tail _ (.tail _ (.head _))))) ?_
              (conv => arg 5; whnf)
              refine wp_must ⟨by omega, by omega⟩ ?_
              (conv => arg 5; whnf)
              refine wp_br (fun h => by simp at h; omega) (fun _ => ?_)
              (conv => arg 5; whnf)
              refine wp_must ⟨by omega, by omega⟩ ?_
              (conv => arg 5; whnf)
              refine wp_end ⟨k + 1, hlt, ⟨by repeat' first | exact trivial | refine ⟨.inl rfl, ?_⟩ | refine ⟨.inr rfl, ?_⟩, ⟨by repeat' first | exact trivial | refine ⟨.inl rfl, ?_⟩ | refine ⟨.inr rfl, ?_⟩, by repeat' first | exact trivial | refine ⟨.inl rfl, ?_⟩ | refine ⟨.inr rfl, ?_⟩, fun _ h => h⟩, rfl⟩, by show n - (k + 1) < n - k; omega⟩
          · (conv => arg 5; whnf)
            refine wp_must ⟨by omega, by omega, hs.some hlt⟩ ?_
            (conv => arg 5; whnf)
            refine readX (l := l) (k := k) rfl (.tail _ (.tail _ (.head _))) hlt (hs.some hlt) hz rfl ?_
            (conv => arg 5; whnf)
            refine wp_must ⟨by omega, by omega, hs.some h1⟩ ?_
            (conv => arg 5; whnf)
            refine readX (l := l) (k := 0) rfl (.tail _ (.tail _ (.head _))) h1 (hs.some h1) hy0 rfl ?_
            (conv => arg 5; whnf)
            refine wp_prim (.bool (sameT z (nx l 0))) (fun w => eq_any _ _ z (nx l 0) w) ?_
            (conv => arg 5; whnf)
            refine wp_br (fun e2 => ?_) (fun e2 => ?_)
            · rw [if_neg (by rw [e1]; simp)] at CPz
              rw [if_pos e2] at CQz
              (conv => arg 5; whnf)
              refine wp_must ⟨by omega, by omega, hs.some hlt⟩ ?_
              (conv => arg 5; whnf)
              refine readX (l := l) (k := k) rfl (.tail _ (.tail _ (.head _))) hlt (hs.some hlt) hz rfl ?_
              (conv => arg 5; whnf)
              refine wp_must ⟨by omega, by omega, hs.some hlt⟩ ?_
              (conv => arg 5; whnf)
              refine readX (l := l) (k := k) rfl (.tail _ (.tail _ (.head _))) hlt (hs.some hlt) hz rfl ?_
              (conv => arg 5; whnf)
              refine meetc (f := 53) (v := .int .i64 (c2 : Nat)) rfl (by kernel_rfl) (fun β ρ w' hM' => hc2 ▸ count_ z pu p (l.length + 1) c_p w' (hM.later hM'.below) h_p lpu.symm (by omega) hdp (hM'.at_ (.tail _ (.head _)))) ?_
              (conv => arg 5; whnf)
              refine meetc (f := 53) (v := .int .i64 (c1 : Nat)) rfl (by kernel_rfl) (fun β ρ w' hM' => hc1 ▸ count_ z l a n c w' (hM.later hM'.below) hs hn (by omega) hd (hM'.at_ (.tail _ (.tail _ (.head _))))) ?_
              (conv => arg 5; whnf)
              refine wp_must ⟨by omega, by omega⟩ ?_
              (conv => arg 5; whnf)
              refine wp_g0 (fun _ => ?_) (fun h => by simp at h; omega)
              (conv => arg 5; whnf)
              refine wp_must ⟨by omega, by omega, hs.some hlt⟩ ?_
              (conv => arg 5; whnf)
              refine readX (l := l) (k := k) rfl (.tail _ (.tail _ (.head _))) hlt (hs.some hlt) hz rfl ?_
              (conv => arg 5; whnf)
              refine wp_must ⟨by omega, by omega, hs.some hlt⟩ ?_
              (conv => arg 5; whnf)
              refine readX (l := l) (k := k) rfl (.tail _ (.tail _ (.head _))) hlt (hs.some hlt) hz rfl ?_
              (conv => arg 5; whnf)
              refine meetc (f := 53) (v := .int .i64 (c3 : Nat)) rfl (by kernel_rfl) (fun β ρ w' hM' => hc3 ▸ count_ z po q (n - 1) c_q w' (hM.later hM'.below) h_q (by omega) (by omega) hdq (hM'.at_ (.head _))) ?_
              (conv => arg 5; whnf)
              refine meetc (f := 53) (v := .int .i64 (c1 : Nat)) rfl (by kernel_rfl) (fun β ρ w' hM' => hc1 ▸ count_ z l a n c w' (hM.later hM'.below) hs hn (by omega) hd (hM'.at_ (.tail _ (.tail _ (.head _))))) ?_
              (conv => arg 5; whnf)
              refine wp_must ⟨by omega, by omega⟩ ?_
              (conv => arg 5; whnf)
              refine wp_br (fun h => by simp at h; omega) (fun _ => ?_)
              (conv => arg 5; whnf)
              refine wp_must ⟨by omega, by omega⟩ ?_
              (conv => arg 5; whnf)
              refine wp_end ⟨k + 1, hlt, ⟨by repeat' first | exact trivial | refine ⟨.inl rfl, ?_⟩ | refine ⟨.inr rfl, ?_⟩, ⟨by repeat' first | exact trivial | refine ⟨.inl rfl, ?_⟩ | refine ⟨.inr rfl, ?_⟩, by repeat' first | exact trivial | refine ⟨.inl rfl, ?_⟩ | refine ⟨.inr rfl, ?_⟩, fun _ h => h⟩, rfl⟩, by show n - (k + 1) < n - k; omega⟩
            · rw [if_neg (by rw [e1]; simp)] at CPz
              rw [if_neg (by rw [e2]; simp)] at CQz
              (conv => arg 5; whnf)
              refine wp_must ⟨by omega, by omega, hs.some hlt⟩ ?_
              (conv => arg 5; whnf)
              refine readX (l := l) (k := k) rfl (.tail _ (.tail _ (.head _))) hlt (hs.some hlt) hz rfl ?_
              (conv => arg 5; whnf)
              refine wp_must ⟨by omega, by omega, hs.some hlt⟩ ?_
              (conv => arg 5; whnf)
              refine readX (l := l) (k := k) rfl (.tail _ (.tail _ (.head _))) hlt (hs.some hlt) hz rfl ?_
              (conv => arg 5; whnf)
              refine meetc (f := 53) (v := .int .i64 (c2 : Nat)) rfl (by kernel_rfl) (fun β ρ w' hM' => hc2 ▸ count_ z pu p (l.length + 1) c_p w' (hM.later hM'.below) h_p lpu.symm (by omega) hdp (hM'.at_ (.tail _ (.head _)))) ?_
              (conv => arg 5; whnf)
              refine meetc (f := 53) (v := .int .i64 (c1 : Nat)) rfl (by kernel_rfl) (fun β ρ w' hM' => hc1 ▸ count_ z l a n c w' (hM.later hM'.below) hs hn (by omega) hd (hM'.at_ (.tail _ (.tail _ (.head _))))) ?_
              (conv => arg 5; whnf)
              refine wp_must ⟨by omega, by omega⟩ ?_
              (conv => arg 5; whnf)
              refine wp_g0 (fun _ => ?_) (fun h => by simp at h; omega)
              (conv => arg 5; whnf)
              refine wp_must ⟨by omega, by omega, hs.some hlt⟩ ?_
              (conv => arg 5; whnf)
              refine readX (l := l) (k := k) rfl (.tail _ (.tail _ (.head _))) hlt (hs.some hlt) hz rfl ?_
              (conv => arg 5; whnf)
              refine wp_must ⟨by omega, by omega, hs.some hlt⟩ ?_
              (conv => arg 5; whnf)
              refine readX (l := l) (k := k) rfl (.tail _ (.tail _ (.head _))) hlt (hs.some hlt) hz rfl ?_
              (conv => arg 5; whnf)
              refine meetc (f := 53) (v := .int .i64 (c3 : Nat)) rfl (by kernel_rfl) (fun β ρ w' hM' => hc3 ▸ count_ z po q (n - 1) c_q w' (hM.later hM'.below) h_q (by omega) (by omega) hdq (hM'.at_ (.head _))) ?_
              (conv => arg 5; whnf)
              refine meetc (f := 53) (v := .int .i64 (c1 : Nat)) rfl (by kernel_rfl) (fun β ρ w' hM' => hc1 ▸ count_ z l a n c w' (hM.later hM'.below) hs hn (by omega) hd (hM'.at_ (.tail _ (.tail _ (.head _))))) ?_
              (conv => arg 5; whnf)
              refine wp_must ⟨by omega, by omega⟩ ?_
              (conv => arg 5; whnf)
              refine wp_br (fun h => by simp at h; omega) (fun _ => ?_)
              (conv => arg 5; whnf)
              refine wp_must ⟨by omega, by omega⟩ ?_
              (conv => arg 5; whnf)
              refine wp_end ⟨k + 1, hlt, ⟨by repeat' first | exact trivial | refine ⟨.inl rfl, ?_⟩ | refine ⟨.inr rfl, ?_⟩, ⟨by repeat' first | exact trivial | refine ⟨.inl rfl, ?_⟩ | refine ⟨.inr rfl, ?_⟩, by repeat' first | exact trivial | refine ⟨.inl rfl, ?_⟩ | refine ⟨.inr rfl, ?_⟩, fun _ h => h⟩, rfl⟩, by show n - (k + 1) < n - k; omega⟩
        · have CPx := CP x
          rw [sameT_self, if_pos rfl] at CPx
          have b1 := cnt_le l x
          generalize hc1 : cnt l x = c1 at *
          generalize hc2 : cnt pu x = c2 at *
          (conv => arg 5; whnf)
          refine meetc (f := 53) (v := .int .i64 (c2 : Nat)) rfl (by kernel_rfl) (fun β ρ w' hM' => hc2 ▸ count_ x pu p (l.length + 1) c_p w' (hM.later hM'.below) h_p lpu.symm (by omega) hdp (hM'.at_ (.tail _ (.head _)))) ?_
          (conv => arg 5; whnf)
          refine meetc (f := 53) (v := .int .i64 (c1 : Nat)) rfl (by kernel_rfl) (fun β ρ w' hM' => hc1 ▸ count_ x l a n c w' (hM.later hM'.below) hs hn (by omega) hd (hM'.at_ (.tail _ (.tail _ (.head _))))) ?_
          (conv => arg 5; whnf)
          refine wp_must ⟨by omega, by omega⟩ ?_
          (conv => arg 5; whnf)
          refine wp_g1 (fun _ => ?_) (fun h => by simp at h; omega)
          (conv => arg 5; whnf)
          refine meetc (f := 39) (v := .bool true) rfl (by kernel_rfl) (fun β ρ w' hM' => live w' (hM.later hM'.below)) ?_
          (conv => arg 5; whnf)
          exact wp_back fun β ρ w' hM' => ⟨rfl, hM'.below⟩
      · have h0 : n = 0 := by omega
        have hl0 : l = [] := List.eq_nil_of_length_eq_zero (by omega)
        subst h0 hl0
        (conv => arg 5; whnf)
        refine meet1F (f := 46) (n := 0 + 1) (v := fun a1 c1 => .slice a1 (0 + 1) c1) (xs := cellsL (pushL [] x)) rfl (by kernel_rfl) (fun β ρ w' hM' => PU w' (hM.later hM'.below) (hM'.at_ (.head _))) (fun p c_p h_p _ => ?_)
        (conv => arg 5; whnf)
        refine meetc (f := 40) (v := .tuple #[.slice none 0 0, tx0.val, .bool false]) rfl (by kernel_rfl) (fun β ρ w' hM' => pop_zero a c w') ?_
        (conv => arg 5; whnf)
        refine wp_must ⟨by omega, by omega⟩ ?_
        (conv => arg 5; whnf)
        refine wp_prim (.bool false) (fun w => rfl) ?_
        (conv => arg 5; whnf)
        refine loop_rule env_ok.keeps [(5, (line [0, 1, 2, 3, 4, 5, 6, 7, 8, 9, 10, 11, 12, 13, 14, 15, 16, 17, 18, 19, 20, 21, 22, 23, 24, 25, 26, 27, 28, 29, 30, 31, 32, 33, 34, 35, 36, 37, 38, 39], [])), (11, (line [0, 1, 2, 3, 4, 5], [])), (14, (line [0, 1, 2, 3, 4, 5, 6, 7], [])), (16, (line [0, 1, 2, 3, 4, 6, 7, 8, 9, 10, 12, 5, 11, 13, 14, 15, 16, 17, 18, 19, 20, 22, 23, 24, 25, 26, 28, 21, 27, 29, 30, 31], [])), (18, (line [0, 1, 3, 4, 2, 5, 6, 7, 8, 9, 10, 11], []))] (schedQ_ok _ _ (by kernel_rfl)) (fun k : Nat => k = 0) (fun k => (⟨[some ([.v (.int .i64 x.s), .v (.int .i64 x.n), .v (.int .i64 x.t), .v (.int .i64 x.c), .v (.int .i64 x.g), .v (.string x.d)], 28)], [], [rowF (pt p (0 + 1)) (cellsL (pushL [] x)), rowF (pt a 0) (cellsL [])]⟩, sl 133 [(0, .v (.slice a 0 c)), (3, .p 0 0), (5, .v (.slice p (0 + 1) c_p)), (9, .v (.int .i64 0))])) (fun k => 0) 0 rfl ⟨by repeat' first | exact trivial | refine ⟨.inl rfl, ?_⟩ | refine ⟨.inr rfl, ?_⟩, ⟨by repeat' first | exact trivial | refine ⟨.inl rfl, ?_⟩ | refine ⟨.inr rfl, ?_⟩, by repeat' first | exact trivial | refine ⟨.inl rfl, ?_⟩ | refine ⟨.inr rfl, ?_⟩, fun _ h => h⟩, rfl⟩ ?_
        intro k hk
        have CPx := CP x
        rw [sameT_self, if_pos rfl] at CPx
        have b1 := cnt_le ([] : List Tx) x
        generalize hc1 : cnt [] x = c1 at *
        generalize hc2 : cnt (pushL [] x) x = c2 at *
        (conv => arg 5; whnf)
        refine meetc (f := 53) (v := .int .i64 (c2 : Nat)) rfl (by kernel_rfl) (fun β ρ w' hM' => hc2 ▸ count_ x (pushL [] x) p (0 + 1) c_p w' (hM.later hM'.below) h_p lpu.symm (by omega) hdp (hM'.at_ (.head _))) ?_
        (conv => arg 5; whnf)
        refine meetc (f := 53) (v := .int .i64 (c1 : Nat)) rfl (by kernel_rfl) (fun β ρ w' hM' => hc1 ▸ count_ x [] a 0 c w' (hM.later hM'.below) hs hn (by omega) hd (hM'.at_ (.tail _ (.head _)))) ?_
        (conv => arg 5; whnf)
        refine wp_must ⟨by omega, by omega⟩ ?_
        (conv => arg 5; whnf)
        refine wp_g1 (fun _ => ?_) (fun h => by simp at h; omega)
        (conv => arg 5; whnf)
        refine meetc (f := 39) (v := .bool true) rfl (by kernel_rfl) (fun β ρ w' hM' => live w' (hM.later hM'.below)) ?_
        (conv => arg 5; whnf)
        exact wp_back fun β ρ w' hM' => ⟨rfl, hM'.below⟩
  · (conv => arg 5; whnf)
    refine meetc (f := 39) (v := .bool true) rfl (by kernel_rfl) (fun β ρ w' hM' => live w' (hM.later hM'.below)) ?_
    (conv => arg 5; whnf)
    exact wp_back fun β ρ w' hM' => ⟨rfl, hM'.below⟩
end Go.Proofs.YtjejjgoagjkfdaaDoor.heapKeeps
namespace Go.Proofs.YtjejjgoagjkfdaaDoor.heapKeeps
open Go.ChangeShapes Go.WideShapes Go.ChangeAt Go.RowKit
open Go.ChangeMaps (open_string shut_string)
set_option linter.unusedVariables false

theorem own : ownKnob Tryd.prog.godebug = none := by kernel_rfl
theorem laidOut : laidOutB Tryd.prog = true := by kernel_rfl

/-- A world in which the list of bounds lies as it was laid. -/
noncomputable def laidWorld (os : Os) : World :=
  let w0 := World.holding Tryd.prog os ⟨#[], #[], []⟩
  { w0 with heap := w0.heap.modify 0 fun
      | .cells _ t frozen => .cells #[.int .i64 255, .int .i64 4294967295, .int .i64 1099511627776, .int .i64 1099511627776, .int .i64 1073741824] t frozen
      | o => o }
theorem laid_met (os : Os) (args : Array Value) : laidMet Tryd.prog Rows.heapKeepsRow.laid ((laidWorld os).forCall (fun _ _ => 0) ⟨#[], args, []⟩).memory :=
  laidMet_of_run (ps := [.cell 0 0, .cell 0 1, .cell 0 2, .cell 0 3, .cell 0 4]) 8 (by kernel_rfl) (by kernel_rfl) (by kernel_rfl)

set_option maxRecDepth 100000 in
theorem lifted (os : Os) (started : os.Started) (H : Type) (enc : TypeId × Value → H) :
    ReturnsInHanded {} Tryd.checked os 15 .any (fun w args => (Rows.heapKeepsSpec.pre enc Tryd.prog Tryd.f15 Rows.heapKeepsRow.domain false w args ∧ laidMet Tryd.prog Rows.heapKeepsRow.laid w) ∧ sizedMet enc Tryd.prog Tryd.f15 (OpenSpec.ofChange Rows.heapKeepsSpec) false w args) (Rows.heapKeepsSpec.post enc Tryd.prog Tryd.f15 false true false false) := by
  refine returnsInHanded_of_change_and (C := Tryd.checked) (X := fun w _ => laidMet Tryd.prog Rows.heapKeepsRow.laid w) (fun _ _ _ hh h => h.of_heap hh) own started (by kernel_rfl) Tryd.func15
    (ChangeSpec.witness_at (enc := enc) (C := Tryd.checked) (os := os) (X := fun w _ => laidMet Tryd.prog Rows.heapKeepsRow.laid w) false (laidWorld os) #[.slice none 0 0, .agg #[.int .i64 0, .int .i64 0, .int .i64 0, .int .i64 0, .int .i64 0, .string ByteArray.empty]] 8 rfl (by kernel_rfl) (by kernel_rfl) (by kernel_rfl) (by kernel_rfl) (by kernel_rfl) (laid_met os _)) ?_
  intro W base args ds gs before hval0 hW hcnd _ hL _
  have hval : ∀ (j : Nat) t v, Tryd.f15.params[j]? = some t → args[j]? = some v → Value.okWide Tryd.prog W .any base t v := hval0
  have hW' := hW
  obtain ⟨p, q, hA0, hV, rfl, hfz, hnd⟩ := hW
  have hA : DataW.TrodAll enc Tryd.prog W 0 (fun _ => true) true Tryd.f15.params.toList args.toList ds p := hA0
  rw [Tryd.params15] at hA hval
  obtain ⟨v0, vs0, d0, ds0, p0, q0, hargs, rfl, rfl, h0, r0⟩ := trodAll_cons hA
  obtain ⟨v1, vs1, d1, ds1, p1, q1, rfl, rfl, rfl, h1, r1⟩ := trodAll_cons r0
  obtain ⟨rfl, rfl, rfl⟩ := trodAll_nil r1
  obtain rfl : args = #[v0, v1] := by cases args; simp_all
  obtain ⟨rfl, rfl⟩ := trodVars_none hV
  have k0 := h0
  have lt0 : ∀ x ∈ p0, x.block < W.heap.size := by obtain ⟨m, hm⟩ := k0; exact DataW.trod_lt m _ _ _ hm
  obtain ⟨a0, n0, c0, l0, rfl, f0⟩ := queue.open_txs (hval 0 22 v0 rfl rfl) h0
  have k1 := h1
  have lt1 : ∀ x ∈ p1, x.block < W.heap.size := by obtain ⟨m, hm⟩ := k1; exact DataW.trod_lt m _ _ _ hm
  obtain ⟨x1, rfl, f1⟩ := queue.open_tx (hval 1 28 v1 rfl rfl) h1
  clear hA0 hval0
  have hM : txn.Most W := txn.most_of_laid hL
  refine (walk a0 n0 c0 l0 x1 W hM f0 f1).mono fun e W' ⟨he, bel⟩ => ?_
  subst he
  exact ⟨_, rfl, _, _, _, [], _, [], hW', trodAll_mk1 (shut_bool Tryd.underlying4 _), (trodAll_cons_mk (Below.trod laidOut (by kernel_rfl) (of_decide_eq_true (by kernel_rfl)) k0 bel lt0) (trodAll_cons_mk (Below.trod laidOut (by kernel_rfl) (of_decide_eq_true (by kernel_rfl)) k1 bel lt1) trodAll_mk0)), rfl, bel.frame _, fun h => by cases h⟩

theorem over : Rows.HeapKeepsSaid :=
  OpenClaim.holds_of_wide 15 Tryd.f15 rfl rfl rfl rfl rfl rfl rfl ⟨rfl, rfl, rfl, rfl, rfl⟩ rfl rfl rfl rfl rfl (by kernel_rfl) Tryd.func15 (by kernel_rfl)
    (of_decide_eq_true (by kernel_rfl)) (by unfold Func.isWrapper; first | (rw [if_pos (by decide +kernel)]; kernel_rfl) | (rw [if_neg (by decide +kernel)]; exact ⟨rfl, rfl⟩))
    (fun os started H enc _ => lifted os started H enc)

/-- THE STATEMENT. -/
theorem proved : Rows.HeapKeepsCardSaid :=
  Claim7.holds_tied_plain_at .later [] [.data] true (true, "7b43f0632fcd048b6f8d684439df47e40f777b51c5ba6c01f50c9ec08b270201") false
    over (fun _ h => by cases h) (by kernel_rfl) (fun _ h => by cases h) heapKeeps_row_tie rfl ⟨rfl, rfl⟩ (by kernel_rfl) rfl
    (fun f fn hf hfn => by
      obtain rfl : f = 15 := (Option.some.inj ((show Tryd.prog.funcNamed "hopper/hopperlaw06.HeapKeeps" = some 15 by kernel_rfl).symm.trans hf)).symm
      obtain rfl : fn = Tryd.f15 := (Option.some.inj (Tryd.func15.symm.trans hfn)).symm
      exact ⟨by kernel_rfl, fun j t ht => by
        rw [Tryd.params15] at ht
        match j, ht with
        | 0, ht =>
          obtain rfl : t = 22 := by simpa using ht.symm
          exact (show Tryd.prog.wantsStandIn 22 = false by kernel_rfl)
        | 1, ht =>
          obtain rfl : t = 28 := by simpa using ht.symm
          exact (show Tryd.prog.wantsStandIn 28 = false by kernel_rfl)
        | j + 2, ht => simp at ht⟩)
    (by kernel_rfl)
#print axioms proved
end Go.Proofs.YtjejjgoagjkfdaaDoor.heapKeeps
