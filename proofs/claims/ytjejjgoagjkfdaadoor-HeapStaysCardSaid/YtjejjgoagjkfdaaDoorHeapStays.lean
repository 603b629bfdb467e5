/- hopper/hopperlaw06.HeapStays answers true at every input, and every argument reads behind the call as it read before; hopper/txn.most holds what the program's text lays there: the card ties it. No other condition. -/
import Derived.Test.YtjejjgoagjkfdaaDoorRows
import Derived.Test.YtjejjgoagjkfdaaDoorTxn
import Derived.OpenShut
import Derived.ChangeOld
import Derived.LaidLaws
import Derived.Test.YtjejjgoagjkfdaaDoorHeapN
import Derived.Test.YtjejjgoagjkfdaaDoorQueueOpen
import Derived.Test.YtjejjgoagjkfdaaDoorCards
import Derived.Test.YtjejjgoagjkfdaaDoorTie
import Derived.WalkKit
import Derived.ProofKit
import Derived.ShutString
import Derived.Below
import Derived.Handed
import Derived.SevenTiedAt
namespace Go.Proofs.YtjejjgoagjkfdaaDoor.txn
open Go.RowKit Go.ChangeShapes Go.WideShapes
set_option linter.unusedVariables false

set_option maxRecDepth 100000 in
/-- From what is laid to the cells that Check reads. -/
theorem most_of_laid {W : World} (h : laidMet Tryd.prog [("hopper/txn.most", Rows.laid_hopper_txn_most)] W) : Most W := by
  obtain ⟨ps, ⟨g, t, cs, fuel, p, q, hg, ht, hvar, hd, _, _⟩, _⟩ := h
  obtain rfl := Option.some.inj ((show Tryd.prog.globalNamed "hopper/txn.most" = some 0 by kernel_rfl).symm.trans hg)
  obtain rfl := Option.some.inj ((show (Tryd.prog.globals[0]?).map (·.type) = some 83 by kernel_rfl).symm.trans ht)
  obtain ⟨xs, m, _, hx, hlen, hn, hi⟩ := DataW.trod_array Tryd.underlying83 hd
  have h5 : cs.toList.length = 5 := hlen.trans (by kernel_rfl)
  obtain ⟨l⟩ := cs
  match l, h5 with
  | [c0, c1, c2, c3, c4], _ =>
    match xs, hn with
    | [y0, y1, y2, y3, y4], _ =>
      have k3 : Tryd.prog.cellsOf 3 = 1 := by kernel_rfl
      have g0 := hi 0 (by omega)
      have g1 := hi 1 (by omega)
      have g2 := hi 2 (by omega)
      have g3 := hi 3 (by omega)
      have g4 := hi 4 (by omega)
      simp [k3] at g0 g1 g2 g3 g4
      obtain ⟨a0, e0, f0, _⟩ := DataW.trod_int Tryd.underlying3 g0
      obtain ⟨a1, e1, f1, _⟩ := DataW.trod_int Tryd.underlying3 g1
      obtain ⟨a2, e2, f2, _⟩ := DataW.trod_int Tryd.underlying3 g2
      obtain ⟨a3, e3, f3, _⟩ := DataW.trod_int Tryd.underlying3 g3
      obtain ⟨a4, e4, f4, _⟩ := DataW.trod_int Tryd.underlying3 g4
      simp at e0 e1 e2 e3 e4
      subst e0 e1 e2 e3 e4 f0 f1 f2 f3 f4
      simp [Rows.laid_hopper_txn_most] at hx
      obtain ⟨⟨r0, r1, r2, r3, r4⟩, _⟩ := hx
      subst r0 r1 r2 r3 r4
      have z0 := World.var?_cell hg hvar 0
      have z1 := World.var?_cell hg hvar 1
      have z2 := World.var?_cell hg hvar 2
      have z3 := World.var?_cell hg hvar 3
      have z4 := World.var?_cell hg hvar 4
      have hz : 0 < W.heap.size := by
        rcases Nat.eq_zero_or_pos W.heap.size with h0 | h0
        · exfalso
          simp [World.cell?, Array.getElem?_eq_none (show W.heap.size ≤ 0 by omega)] at z0
        · exact h0
      exact ⟨by simpa using z0, by simpa using z1, by simpa using z2, by simpa using z3, by simpa using z4, hz⟩
end Go.Proofs.YtjejjgoagjkfdaaDoor.txn
namespace Go.Proofs.YtjejjgoagjkfdaaDoor.heapStays
open Go.RowKit Sx txn queue heap
set_option linter.unusedVariables false
set_option linter.unusedSimpArgs false
set_option maxHeartbeats 4000000 in
set_option maxRecDepth 100000 in
theorem walk (a : Option Addr) (n c : Nat) (l : List Tx) (x : Tx) (w : World) (hM : Most w) (h : Sl a n c ∧ n = l.length ∧ At w (pt a n) (cellsL l) ∧ ∀ x ∈ l, Tx.fits x) (hx : Tx.fits x) : Calls Tryd.prog 11 (List.toArray [.slice a n c, x.val]) w fun e w' =>  e = .returned (.bool true) ∧ Below w.heap.size w w' := by
  obtain ⟨hs, hn, hrow, hft⟩ := h
  have hn63 := hs.le
  have hd : ∀ x ∈ l, x.d.size ≤ maxLen := fun x hx => (hft x hx).2.2.2.2.2
  have hdx : x.d.size ≤ maxLen := hx.2.2.2.2.2
  refine calls_of_exec env_ok.keeps Tryd.func11 rfl [(11, (line [0, 1, 2, 3, 4, 5], [])), (13, (line [0, 1, 2, 3, 4, 5, 6, 7, 8, 9, 10, 11, 13, 14, 15, 16, 17, 19, 12, 18, 20, 21, 22], [])), (19, (line [0, 1, 2, 3, 4, 5], [])), (21, (line [0, 1, 2, 3, 4, 6, 7, 8, 9, 10, 12, 5, 11, 13, 14], []))] (schedQ_ok _ _ (by kernel_rfl)) [rowF (pt a n) (cellsL l)] (at1 hrow) ?_
  (conv => arg 5; whnf)
  refine meetc (f := 38) (v := .bool (fewB l && decide ((n : Int) ≤ 40))) rfl (by kernel_rfl) (fun β ρ w' hM' => rfew l a n c 40 w' hs hn (hM'.at_ (.head _))) ?_
  (conv => arg 5; whnf)
  refine wp_g0 (fun hsm => ?_) (fun hsm => ?_)
  · have hl : l.length ≤ 40 := by simp at hsm; omega
    (conv => arg 5; whnf)
    refine meetc (f := 27) (v := .bool (decide (x.d.size ≤ 500))) rfl (by kernel_rfl) (fun β ρ w' hM' => rsmall x w') ?_
    (conv => arg 5; whnf)
    refine wp_g0 (fun hsx => ?_) (fun hsx => ?_)
    · have CK0 := fun w hM hr => checkG l a n c w hM hs hn (by omega) hd hr _ rfl
      (conv => arg 5; whnf)
      refine meetc (f := 44) (v := .bool (heapV l)) rfl (by kernel_rfl) (fun β ρ w' hM' => CK0 w' (hM.later hM'.below) (hM'.at_ (.head _))) ?_
      (conv => arg 5; whnf)
      refine wp_br (fun hv => ?_) (fun hv => ?_)
      · (conv => arg 5; whnf)
        refine meetc (f := 39) (v := .bool true) rfl (by kernel_rfl) (fun β ρ w' hM' => live w' (hM.later hM'.below)) ?_
        (conv => arg 5; whnf)
        exact wp_back fun β ρ w' hM' => ⟨rfl, hM'.below⟩
      · have hhv : heapV l = true := by simpa using hv
        have lpu := pushL_length l x
        rw [← hn] at lpu
        have lpo := popL_length (pushL l x)
        rw [lpu, Nat.add_sub_cancel] at lpo
        have PU := fun w hM hr => pushG x hdx l a n c w hM hs hn (by omega) hd hr _ rfl
        rw [← hn] at PU
        have hdp : ∀ z ∈ pushL l x, z.d.size ≤ maxLen := fun z hz => by
          rcases List.mem_append.1 (pushL_mem z hz) with h | h
          · exact hd z h
          · simp only [List.mem_singleton] at h; subst h; exact hdx
        have hph := push_heap x hhv
        have hqh := pop_heap hph
        have hne : pushL l x ≠ [] := by intro h0; rw [h0] at lpu; simp at lpu
        have RT : ∀ k, k < n + 1 → betterV (nx (pushL l x) k) (nx (pushL l x) 0) = false := fun k hk => nB.1 (heap_root hph k (by omega))
        have CP := cnt_push l x
        have CQ := cnt_pop (l := pushL l x) (by omega)
        have hdq : ∀ z ∈ popL (pushL l x), z.d.size ≤ maxLen := fun z hz => hdp z (popL_mem hne z hz)
        have hdf := hdp _ (nx_mem (l := pushL l x) (i := 0) (by omega))
        have PO := fun a c w hM hs hr => popG (pushL l x) a (n + 1) c w hM hs lpu.symm (by omega) hdp hr _ _ (by omega) rfl rfl
        simp only [Nat.add_sub_cancel] at PO
        generalize popL (pushL l x) = po at *
        generalize pushL l x = pu at *
        generalize hfe : nx pu 0 = f at *
        have CKP := fun a c w hM hs hr => checkG pu a (n + 1) c w hM hs lpu.symm (by omega) hdp hr true hph
        have CKQ := fun a c w hM hs hr => checkG po a n c w hM hs lpo.symm (by omega) hdq hr true hqh
        have hsym : ∀ u v : Tx, sameT u v = sameT v u := fun u v => by
          cases h1 : sameT u v with
          | true => rw [(sameT_iff u v).1 h1]; exact (sameT_self v).symm
          | false => cases h2 : sameT v u with
            | false => rfl
            | true => rw [(sameT_iff v u).1 h2, sameT_self] at h1; cases h1
        (conv => arg 5; whnf)
        refine meet1F (f := 46) (n := n + 1) (v := fun a1 c1 => .slice a1 (n + 1) c1) (xs := cellsL pu) rfl (by kernel_rfl) (fun β ρ w' hM' => PU w' (hM.later hM'.below) (hM'.at_ (.head _))) (fun p c_p h_p _ => ?_)
        (conv => arg 5; whnf)
        refine meet1F (f := 40) (n := n) (v := fun a1 c1 => .tuple #[.slice a1 n c1, f.val, .bool true]) (xs := cellsL po) rfl (by kernel_rfl) (fun β ρ w' hM' => PO p c_p w' (hM.later hM'.below) h_p (hM'.at_ (.head _))) (fun q c_q h_q _ => ?_)
        (conv => arg 5; whnf)
        refine meetc (f := 44) (v := .bool true) rfl (by kernel_rfl) (fun β ρ w' hM' => CKP p c_p w' (hM.later hM'.below) h_p (hM'.at_ (.tail _ (.head _)))) ?_
        (conv => arg 5; whnf)
        refine meetc (f := 44) (v := .bool true) rfl (by kernel_rfl) (fun β ρ w' hM' => CKQ q c_q w' (hM.later hM'.below) h_q (hM'.at_ (.head _))) ?_
        (conv => arg 5; whnf)
        refine wp_must ⟨by omega, by omega⟩ ?_
        (conv => arg 5; whnf)
        refine wp_g0 (fun _ => ?_) (fun h => by simp at h)
        (conv => arg 5; whnf)
        refine wp_br (fun h => by simp at h) (fun _ => ?_)
        (conv => arg 5; whnf)
        refine loop_rule env_ok.keeps [(11, (line [0, 1, 2, 3, 4, 5], [])), (13, (line [0, 1, 2, 3, 4, 5, 6, 7, 8, 9, 10, 11, 13, 14, 15, 16, 17, 19, 12, 18, 20, 21, 22], [])), (19, (line [0, 1, 2, 3, 4, 5], [])), (21, (line [0, 1, 2, 3, 4, 6, 7, 8, 9, 10, 12, 5, 11, 13, 14], []))] (schedQ_ok _ _ (by kernel_rfl)) (fun k : Nat => k ≤ n + 1) (fun k => (⟨[some ([.v (.int .i64 x.s), .v (.int .i64 x.n), .v (.int .i64 x.t), .v (.int .i64 x.c), .v (.int .i64 x.g), .v (.string x.d)], 28), some ([.v (.int .i64 f.s), .v (.int .i64 f.n), .v (.int .i64 f.t), .v (.int .i64 f.c), .v (.int .i64 f.g), .v (.string f.d)], 28)], [], [rowF (pt q n) (cellsL po), rowF (pt p (n + 1)) (cellsL pu), rowF (pt a n) (cellsL l)]⟩, sl 126 [(0, .v (.slice a n c)), (3, .p 0 0), (5, .v (.slice p (n + 1) c_p)), (6, .v (.slice q n c_q)), (7, .p (0 + 1) 0), (9, .v (.int .i64 k))])) (fun k => n + 1 - k) 0 (Nat.zero_le _) ⟨by repeat' first | exact trivial | refine ⟨.inl rfl, ?_⟩ | refine ⟨.inr rfl, ?_⟩, ⟨by repeat' first | exact trivial | refine ⟨.inl rfl, ?_⟩ | refine ⟨.inr rfl, ?_⟩, by repeat' first | exact trivial | refine ⟨.inl rfl, ?_⟩ | refine ⟨.inr rfl, ?_⟩, fun _ h => h⟩, rfl⟩ ?_
        intro k hk
        (conv => arg 5; whnf)
        refine wp_br (fun h1 => ?_) (fun h1 => ?_)
        · have hlt : k < n + 1 := by simp at h1; omega
          have hz := nx_get (l := pu) (i := k) (by omega)
          have hdz := hdp _ (nx_mem (l := pu) (i := k) (by omega))
          have CPz := CP (nx pu k)
          rw [hsym x] at CPz
          have b1 := cnt_le l (nx pu k)
          have BW := fun w hM => rbetter (nx pu k) f w hM hdz hdf
          rw [RT k hlt] at BW
          have C1 := fun w hM hr => count_ (nx pu k) pu p (n + 1) c_p w hM h_p lpu.symm (by omega) hdp hr
          have C2 := fun w hM hr => count_ (nx pu k) l a n c w hM hs hn (by omega) hd hr
          generalize nx pu k = z at *
          generalize cnt l z = c1 at *
          generalize cnt pu z = c2 at *
          (conv => arg 5; whnf)
          refine wp_must ⟨by omega, by omega, h_p.some hlt⟩ ?_
          (conv => arg 5; whnf)
          refine readX (l := pu) (k := k) rfl (.tail _ (.head _)) hlt (h_p.some hlt) hz rfl ?_
          (conv => arg 5; whnf)
          refine wp_prim (.bool (sameT z x)) (fun w => eq_any _ _ z x w) ?_
          (conv => arg 5; whnf)
          refine wp_br (fun e1 => ?_) (fun e1 => ?_)
          · rw [if_pos e1] at CPz
            (conv => arg 5; whnf)
            refine wp_must ⟨by omega, by omega, h_p.some hlt⟩ ?_
            (conv => arg 5; whnf)
            refine readX (l := pu) (k := k) rfl (.tail _ (.head _)) hlt (h_p.some hlt) hz rfl ?_
            (conv => arg 5; whnf)
            refine meetc (f := 52) (v := .bool false) rfl (by kernel_rfl) (fun β ρ w' hM' => BW w' (hM.later hM'.below)) ?_
            (conv => arg 5; whnf)
            refine wp_must ⟨by omega, by omega, h_p.some hlt⟩ ?_
            (conv => arg 5; whnf)
            refine readX (l := pu) (k := k) rfl (.tail _ (.head _)) hlt (h_p.some hlt) hz rfl ?_
            (conv => arg 5; whnf)
            refine wp_must ⟨by omega, by omega, h_p.some hlt⟩ ?_
            (conv => arg 5; whnf)
            refine readX (l := pu) (k := k) rfl (.tail _ (.head _)) hlt (h_p.some hlt) hz rfl ?_
            (conv => arg 5; whnf)
            refine meetc (f := 53) (v := .int .i64 (c2 : Nat)) rfl (by kernel_rfl) (fun β ρ w' hM' => C1 w' (hM.later hM'.below) (hM'.at_ (.tail _ (.head _)))) ?_
            (conv => arg 5; whnf)
            refine meetc (f := 53) (v := .int .i64 (c1 : Nat)) rfl (by kernel_rfl) (fun β ρ w' hM' => C2 w' (hM.later hM'.below) (hM'.at_ (.tail _ (.tail _ (.head _))))) ?_
            (conv => arg 5; whnf)
            refine wp_must ⟨by omega, by omega⟩ ?_
            (conv => arg 5; whnf)
            refine wp_br (fun h => by simp at h; omega) (fun _ => ?_)
            (conv => arg 5; whnf)
            refine wp_must ⟨by omega, by omega⟩ ?_
            (conv => arg 5; whnf)
            refine wp_end ⟨k + 1, hlt, ⟨by repeat' first | exact trivial | refine ⟨.inl rfl, ?_⟩ | refine ⟨.inr rfl, ?_⟩, ⟨by repeat' first | exact trivial | refine ⟨.inl rfl, ?_⟩ | refine ⟨.inr rfl, ?_⟩, by repeat' first | exact trivial | refine ⟨.inl rfl, ?_⟩ | refine ⟨.inr rfl, ?_⟩, fun _ h => h⟩, rfl⟩, by show n + 1 - (k + 1) < n + 1 - k; omega⟩
          · rw [if_neg (by rw [e1]; simp)] at CPz
            (conv => arg 5; whnf)
            refine wp_must ⟨by omega, by omega, h_p.some hlt⟩ ?_
            (conv => arg 5; whnf)
            refine readX (l := pu) (k := k) rfl (.tail _ (.head _)) hlt (h_p.some hlt) hz rfl ?_
            (conv => arg 5; whnf)
            refine meetc (f := 52) (v := .bool false) rfl (by kernel_rfl) (fun β ρ w' hM' => BW w' (hM.later hM'.below)) ?_
            (conv => arg 5; whnf)
            refine wp_must ⟨by omega, by omega, h_p.some hlt⟩ ?_
            (conv => arg 5; whnf)
            refine readX (l := pu) (k := k) rfl (.tail _ (.head _)) hlt (h_p.some hlt) hz rfl ?_
            (conv => arg 5; whnf)
            refine wp_must ⟨by omega, by omega, h_p.some hlt⟩ ?_
            (conv => arg 5; whnf)
            refine readX (l := pu) (k := k) rfl (.tail _ (.head _)) hlt (h_p.some hlt) hz rfl ?_
            (conv => arg 5; whnf)
            refine meetc (f := 53) (v := .int .i64 (c2 : Nat)) rfl (by kernel_rfl) (fun β ρ w' hM' => C1 w' (hM.later hM'.below) (hM'.at_ (.tail _ (.head _)))) ?_
            (conv => arg 5; whnf)
            refine meetc (f := 53) (v := .int .i64 (c1 : Nat)) rfl (by kernel_rfl) (fun β ρ w' hM' => C2 w' (hM.later hM'.below) (hM'.at_ (.tail _ (.tail _ (.head _))))) ?_
            (conv => arg 5; whnf)
            refine wp_must ⟨by omega, by omega⟩ ?_
            (conv => arg 5; whnf)
            refine wp_br (fun h => by simp at h; omega) (fun _ => ?_)
            (conv => arg 5; whnf)
            refine wp_must ⟨by omega, by omega⟩ ?_
            (conv => arg 5; whnf)
            refine wp_end ⟨k + 1, hlt, ⟨by repeat' first | exact trivial | refine ⟨.inl rfl, ?_⟩ | refine ⟨.inr rfl, ?_⟩, ⟨by repeat' first | exact trivial | refine ⟨.inl rfl, ?_⟩ | refine ⟨.inr rfl, ?_⟩, by repeat' first | exact trivial | refine ⟨.inl rfl, ?_⟩ | refine ⟨.inr rfl, ?_⟩, fun _ h => h⟩, rfl⟩, by show n + 1 - (k + 1) < n + 1 - k; omega⟩
        · 
          (conv => arg 5; whnf)
          refine loop_rule env_ok.keeps [(11, (line [0, 1, 2, 3, 4, 5], [])), (13, (line [0, 1, 2, 3, 4, 5, 6, 7, 8, 9, 10, 11, 13, 14, 15, 16, 17, 19, 12, 18, 20, 21, 22], [])), (19, (line [0, 1, 2, 3, 4, 5], [])), (21, (line [0, 1, 2, 3, 4, 6, 7, 8, 9, 10, 12, 5, 11, 13, 14], []))] (schedQ_ok _ _ (by kernel_rfl)) (fun k : Nat => k ≤ n) (fun k => (⟨[some ([.v (.int .i64 x.s), .v (.int .i64 x.n), .v (.int .i64 x.t), .v (.int .i64 x.c), .v (.int .i64 x.g), .v (.string x.d)], 28), some ([.v (.int .i64 f.s), .v (.int .i64 f.n), .v (.int .i64 f.t), .v (.int .i64 f.c), .v (.int .i64 f.g), .v (.string f.d)], 28)], [], [rowF (pt q n) (cellsL po), rowF (pt p (n + 1)) (cellsL pu), rowF (pt a n) (cellsL l)]⟩, sl 126 [(0, .v (.slice a n c)), (3, .p 0 0), (5, .v (.slice p (n + 1) c_p)), (6, .v (.slice q n c_q)), (7, .p (0 + 1) 0), (11, .v (.int .i64 k))])) (fun k => n - k) 0 (Nat.zero_le _) ⟨by repeat' first | exact trivial | refine ⟨.inl rfl, ?_⟩ | refine ⟨.inr rfl, ?_⟩, ⟨by repeat' first | exact trivial | refine ⟨.inl rfl, ?_⟩ | refine ⟨.inr rfl, ?_⟩, by repeat' first | exact trivial | refine ⟨.inl rfl, ?_⟩ | refine ⟨.inr rfl, ?_⟩, fun _ h => h⟩, rfl⟩ ?_
          intro k hk
          (conv => arg 5; whnf)
          refine wp_br (fun h2 => ?_) (fun h2 => ?_)
          · have hlt : k < n := by simp at h2; omega
            have hz := nx_get (l := po) (i := k) (by omega)
            have CQz := CQ (nx po k)
            rw [hsym f] at CQz
            have b1 := cnt_le pu (nx po k)
            have b2 := cnt_le po (nx po k)
            have C1 := fun w hM hr => count_ (nx po k) po q n c_q w hM h_q lpo.symm (by omega) hdq hr
            have C2 := fun w hM hr => count_ (nx po k) pu p (n + 1) c_p w hM h_p lpu.symm (by omega) hdp hr
            generalize nx po k = z at *
            generalize cnt po z = c1 at *
            generalize cnt pu z = c2 at *
            (conv => arg 5; whnf)
            refine wp_must ⟨by omega, by omega, h_q.some hlt⟩ ?_
            (conv => arg 5; whnf)
            refine readX (l := po) (k := k) rfl (.head _) hlt (h_q.some hlt) hz rfl ?_
            (conv => arg 5; whnf)
            refine wp_prim (.bool (sameT z f)) (fun w => eq_any _ _ z f w) ?_
            (conv => arg 5; whnf)
            refine wp_br (fun e1 => ?_) (fun e1 => ?_)
            · rw [if_pos e1] at CQz
              (conv => arg 5; whnf)
              refine wp_must ⟨by omega, by omega, h_q.some hlt⟩ ?_
              (conv => arg 5; whnf)
              refine readX (l := po) (k := k) rfl (.head _) hlt (h_q.some hlt) hz rfl ?_
              (conv => arg 5; whnf)
              refine wp_must ⟨by omega, by omega, h_q.some hlt⟩ ?_
              (conv => arg 5; whnf)
              refine readX (l := po) (k := k) rfl (.head _) hlt (h_q.some hlt) hz rfl ?_
              (conv => arg 5; whnf)
              refine meetc (f := 53) (v := .int .i64 (c1 : Nat)) rfl (by kernel_rfl) (fun β ρ w' hM' => C1 w' (hM.later hM'.below) (hM'.at_ (.head _))) ?_
              (conv => arg 5; whnf)
              refine meetc (f := 53) (v := .int .i64 (c2 : Nat)) rfl (by kernel_rfl) (fun β ρ w' hM' => C2 w' (hM.later hM'.below) (hM'.at_ (.tail _ (.head _)))) ?_
              (conv => arg 5; whnf)
              refine wp_must ⟨by omega, by omega⟩ ?_
              (conv => arg 5; whnf)
              refine wp_br (fun h => by simp at h; omega) (fun _ => ?_)
              (conv => arg 5; whnf)
              refine wp_must ⟨by omega, by omega⟩ ?_
              (conv => arg 5; whnf)
              refine wp_end ⟨k + 1, hlt, ⟨by repeat' first | exact trivial | refine ⟨.inl rfl, ?_⟩ | refine ⟨.inr rfl, ?_⟩, ⟨by repeat' first | exact trivial | refine ⟨.inl rfl, ?_⟩ | refine ⟨.inr rfl, ?_⟩, by repeat' first | exact trivial | refine ⟨.inl rfl, ?_⟩ | refine ⟨.inr rfl, ?_⟩, fun _ h => h⟩, rfl⟩, by show n - (k + 1) < n - k; omega⟩
            · rw [if_neg (by rw [e1]; simp)] at CQz
              (conv => arg 5; whnf)
              refine wp_must ⟨by omega, by omega, h_q.some hlt⟩ ?_
              (conv => arg 5; whnf)
              refine readX (l := po) (k := k) rfl (.head _) hlt (h_q.some hlt) hz rfl ?_
              (conv => arg 5; whnf)
              refine wp_must ⟨by omega, by omega, h_q.some hlt⟩ ?_
              (conv => arg 5; whnf)
              refine readX (l := po) (k := k) rfl (.head _) hlt (h_q.some hlt) hz rfl ?_
              (conv => arg 5; whnf)
              refine meetc (f := 53) (v := .int .i64 (c1 : Nat)) rfl (by kernel_rfl) (fun β ρ w' hM' => C1 w' (hM.later hM'.below) (hM'.at_ (.head _))) ?_
              (conv => arg 5; whnf)
              refine meetc (f := 53) (v := .int .i64 (c2 : Nat)) rfl (by kernel_rfl) (fun β ρ w' hM' => C2 w' (hM.later hM'.below) (hM'.at_ (.tail _ (.head _)))) ?_
              (conv => arg 5; whnf)
              refine wp_must ⟨by omega, by omega⟩ ?_
              (conv => arg 5; whnf)
              refine wp_br (fun h => by simp at h; omega) (fun _ => ?_)
              (conv => arg 5; whnf)
              refine wp_must ⟨by omega, by omega⟩ ?_
              (conv => arg 5; whnf)
              refine wp_end ⟨k + 1, hlt, ⟨by repeat' first | exact trivial | refine ⟨.inl rfl, ?_⟩ | refine ⟨.inr rfl, ?_⟩, ⟨by repeat' first | exact trivial | refine ⟨.inl rfl, ?_⟩ | refine ⟨.inr rfl, ?_⟩, by repeat' first | exact trivial | refine ⟨.inl rfl, ?_⟩ | refine ⟨.inr rfl, ?_⟩, fun _ h => h⟩, rfl⟩, by show n - (k + 1) < n - k; omega⟩
          · (conv => arg 5; whnf)
            refine meetc (f := 39) (v := .bool true) rfl (by kernel_rfl) (fun β ρ w' hM' => live w' (hM.later hM'.below)) ?_
            (conv => arg 5; whnf)
            exact wp_back fun β ρ w' hM' => ⟨rfl, hM'.below⟩
    · (conv => arg 5; whnf)
      refine meetc (f := 39) (v := .bool true) rfl (by kernel_rfl) (fun β ρ w' hM' => live w' (hM.later hM'.below)) ?_
      (conv => arg 5; whnf)
      exact wp_back fun β ρ w' hM' => ⟨rfl, hM'.below⟩
  · (conv => arg 5; whnf)
    refine meetc (f := 39) (v := .bool true) rfl (by kernel_rfl) (fun β ρ w' hM' => live w' (hM.later hM'.below)) ?_
    (conv => arg 5; whnf)
    exact wp_back fun β ρ w' hM' => ⟨rfl, hM'.below⟩
end Go.Proofs.YtjejjgoagjkfdaaDoor.heapStays
namespace Go.Proofs.YtjejjgoagjkfdaaDoor.heapStays
open Go.ChangeShapes Go.WideShapes Go.ChangeAt Go.RowKit
open Go.ChangeMaps (open_string shut_string)
set_option linter.unusedVariables false

theorem own : ownKnob Tryd.prog.godebug = none := by kernel_rfl
theorem laidOut : laidOutB Tryd.prog = true := by kernel_rfl

/-- A world in which the list of bounds lies as it was laid. -/
noncomputable def laidWorld (os : Os) : World :=
  let w0 := World.holding Tryd.prog os ⟨#[], #[], []⟩
  { w0 with heap := w0.heap.modify 0 fun
      | .cells _ t frozen => .cells #[.int .i64 255, .int .i64 4294967295, .int .i64 1099511627776, .int .i64 1099511627776, .int .i64 1073741824] t frozen
      | o => o }
theorem laid_met (os : Os) (args : Array Value) : laidMet Tryd.prog Rows.heapStaysRow.laid ((laidWorld os).forCall (fun _ _ => 0) ⟨#[], args, []⟩).memory :=
  laidMet_of_run (ps := [.cell 0 0, .cell 0 1, .cell 0 2, .cell 0 3, .cell 0 4]) 8 (by kernel_rfl) (by kernel_rfl) (by kernel_rfl)

set_option maxRecDepth 100000 in
theorem lifted (os : Os) (started : os.Started) (H : Type) (enc : TypeId × Value → H) :
    ReturnsInHanded {} Tryd.checked os 11 .any (fun w args => (Rows.heapStaysSpec.pre enc Tryd.prog Tryd.f11 Rows.heapStaysRow.domain false w args ∧ laidMet Tryd.prog Rows.heapStaysRow.laid w) ∧ sizedMet enc Tryd.prog Tryd.f11 (OpenSpec.ofChange Rows.heapStaysSpec) false w args) (Rows.heapStaysSpec.post enc Tryd.prog Tryd.f11 false true false false) := by
  refine returnsInHanded_of_change_and (C := Tryd.checked) (X := fun w _ => laidMet Tryd.prog Rows.heapStaysRow.laid w) (fun _ _ _ hh h => h.of_heap hh) own started (by kernel_rfl) Tryd.func11
    (ChangeSpec.witness_at (enc := enc) (C := Tryd.checked) (os := os) (X := fun w _ => laidMet Tryd.prog Rows.heapStaysRow.laid w) false (laidWorld os) #[.slice none 0 0, .agg #[.int .i64 0, .int .i64 0, .int .i64 0, .int .i64 0, .int .i64 0, .string ByteArray.empty]] 8 rfl (by kernel_rfl) (by kernel_rfl) (by kernel_rfl) (by kernel_rfl) (by kernel_rfl) (laid_met os _)) ?_
  intro W base args ds gs before hval0 hW hcnd _ hL _
  have hval : ∀ (j : Nat) t v, Tryd.f11.params[j]? = some t → args[j]? = some v → Value.okWide Tryd.prog W .any base t v := hval0
  have hW' := hW
  obtain ⟨p, q, hA0, hV, rfl, hfz, hnd⟩ := hW
  have hA : DataW.TrodAll enc Tryd.prog W 0 (fun _ => true) true Tryd.f11.params.toList args.toList ds p := hA0
  rw [Tryd.params11] at hA hval
  obtain ⟨v0, vs0, d0, ds0, p0, q0, hargs, rfl, rfl, h0, r0⟩ := trodAll_cons hA
  obtain ⟨v1, vs1, d1, ds1, p1, q1, rfl, rfl, rfl, h1, r1⟩ := trodAll_cons r0
  obtain ⟨rfl, rfl, rfl⟩ := trodAll_nil r1
  obtain rfl : args = #[v0, v1] := by cases args; simp_all
  obtain ⟨rfl, rfl⟩ := trodVars_none hV
  have k0 := h0
  have lt0 : ∀ x ∈ p0, x.block < W.heap.size := by obtain ⟨m, hm⟩ := k0; exact DataW.trod_lt m _ _ _ hm
  obtain ⟨a0, n0, c0, l0, rfl, f0⟩ := queue.open_txs (hval 0 22 v0 rfl rfl) h0
  have k1 := h1
  have lt1 : ∀ x ∈ p1, x.block < W.heap.size := by obtain ⟨m, hm⟩ := k1; exact DataW.trod_lt m _ _ _ hm
  obtain ⟨x1, rfl, f1⟩ := queue.open_tx (hval 1 28 v1 rfl rfl) h1
  clear hA0 hval0
  have hM : txn.Most W := txn.most_of_laid hL
  refine (walk a0 n0 c0 l0 x1 W hM f0 f1).mono fun e W' ⟨he, bel⟩ => ?_
  subst he
  exact ⟨_, rfl, _, _, _, [], _, [], hW', trodAll_mk1 (shut_bool Tryd.underlying4 _), (trodAll_cons_mk (Below.trod laidOut (by kernel_rfl) (of_decide_eq_true (by kernel_rfl)) k0 bel lt0) (trodAll_cons_mk (Below.trod laidOut (by kernel_rfl) (of_decide_eq_true (by kernel_rfl)) k1 bel lt1) trodAll_mk0)), rfl, bel.frame _, fun h => by cases h⟩

theorem over : Rows.HeapStaysSaid :=
  OpenClaim.holds_of_wide 11 Tryd.f11 rfl rfl rfl rfl rfl rfl rfl ⟨rfl, rfl, rfl, rfl, rfl⟩ rfl rfl rfl rfl rfl (by kernel_rfl) Tryd.func11 (by kernel_rfl)
    (of_decide_eq_true (by kernel_rfl)) (by unfold Func.isWrapper; first | (rw [if_pos (by decide +kernel)]; kernel_rfl) | (rw [if_neg (by decide +kernel)]; exact ⟨rfl, rfl⟩))
    (fun os started H enc _ => lifted os started H enc)

/-- THE STATEMENT. -/
theorem proved : Rows.HeapStaysCardSaid :=
  Claim7.holds_tied_plain_at .later [] [.data] true (true, "7b43f0632fcd048b6f8d684439df47e40f777b51c5ba6c01f50c9ec08b270201") false
    over (fun _ h => by cases h) (by kernel_rfl) (fun _ h => by cases h) heapStays_row_tie rfl ⟨rfl, rfl⟩ (by kernel_rfl) rfl
    (fun f fn hf hfn => by
      obtain rfl : f = 11 := (Option.some.inj ((show Tryd.prog.funcNamed "hopper/hopperlaw06.HeapStays" = some 11 by kernel_rfl).symm.trans hf)).symm
      obtain rfl : fn = Tryd.f11 := (Option.some.inj (Tryd.func11.symm.trans hfn)).symm
      exact ⟨by kernel_rfl, fun j t ht => by
        rw [Tryd.params11] at ht
        match j, ht with
        | 0, ht =>
          obtain rfl : t = 22 := by simpa using ht.symm
          exact (show Tryd.prog.wantsStandIn 22 = false by kernel_rfl)
        | 1, ht =>
          obtain rfl : t = 28 := by simpa using ht.symm
          exact (show Tryd.prog.wantsStandIn 28 = false by kernel_rfl)
        | j + 2, ht => simp at ht⟩)
    (by kernel_rfl)
#print axioms proved
end Go.Proofs.YtjejjgoagjkfdaaDoor.heapStays
