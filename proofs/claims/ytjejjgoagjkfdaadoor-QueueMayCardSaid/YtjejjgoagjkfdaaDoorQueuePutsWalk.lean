/- The walk of hopperlaw05.QueuePuts. -/
import Derived.Test.YtjejjgoagjkfdaaDoorQueueLive
import Derived.Test.YtjejjgoagjkfdaaDoorQueueOpen
import Derived.Test.YtjejjgoagjkfdaaDoorQueueY
namespace Go.Proofs.YtjejjgoagjkfdaaDoor.queuePuts
open Go.RowKit Sx txn queue
set_option linter.unusedVariables false
set_option linter.unusedSimpArgs false
theorem putGo_length (is : Bool) (t : Tx) : ∀ l : List Tx, (putGo is t l false).length ≤ l.length + 1
  | [] => by simp [putGo_nil]
  | x :: l => by
    rw [putGo_cons]
    have ih := putGo_length is t l
    cases (x.n == t.n) with
    | true => simp
    | false => cases (!is && decide (x.n > t.n)) with
      | true => simp
      | false => simp; omega
theorem putV_length (t : Tx) (l : List Tx) : (putV t l).length ≤ l.length + 1 := putGo_length _ t l
set_option maxHeartbeats 4000000 in
set_option maxRecDepth 100000 in
theorem walk (s b : Int) (a : Option Addr) (n c : Nat) (l : List Tx) (x y : Tx) (w : World) (hM : Most w) (h : Sl a n c ∧ n = l.length ∧ At w (pt a n) (cellsL l) ∧ (∀ x ∈ l, Tx.fits x) ∧ Fits s ∧ Fits b) (hx : Tx.fits x) (hy : Tx.fits y) : Calls Tryd.prog 7 (List.toArray [.agg #[.int .i64 s, .int .i64 b, .slice a n c], x.val, y.val]) w fun e w' =>  e = .returned (.bool true) ∧ Below w.heap.size w w' := by
  obtain ⟨hs, hn, hrow, hft, hfs, hfb⟩ := h
  have hd : ∀ x ∈ l, x.d.size ≤ maxLen := fun x hx => (hft x hx).2.2.2.2.2
  have PA := putV_again x l
  have PL := putV_length x l
  have PL2 := putV_length y l
  have PL3 := putV_length y (putV x l)
  have PL4 := putV_length x (putV y l)
  have PC := fun (hc : checkV s b 16 l = true) h1 h2 h3 => putV_comm (s := s) (b := b) (t := x) (u := y) (l := l) ((checkV_iff s b 16 l).1 hc).2.2.2.2 h1 h2 h3
  have PF := putV_find x l
  have DN : findV (dropV x.n (putV x l)) x.n = (tx0, false) := findV_none fun z hz => findV_no (dropV_find x.n (putV x l)) z hz
  have C1 := fun w hM hr => check_ s b 16 l a n c w hM hs hn hr
  have DL : (dropV x.n (putV x l)).length ≤ (putV x l).length := List.length_filter_le _ _
  have F2 := fun d c w hs hr => find s b (dropV x.n (putV x l)) d _ c x.n w hs rfl hr
  rw [DN] at F2
  refine calls_of_exec env_ok.keeps Tryd.func7 rfl [(5, (line [0, 1, 2, 3, 4, 5, 6, 7, 8, 9, 11, 10, 12, 13, 14], [])), (7, (.one 0 (.one 1 (.one 2 (.one 4 (.one 5 (.fork 3 (.fork 6 (.one 7 (.one 8 (.one 9 (.one 10 (.one 11 (.one 12 (.done))))))) 10 (.one 6 (.one 7 (.one 8 (.one 9 (.one 11 (.one 12 (.done)))))))) 10 (.one 3 (.one 6 (.one 7 (.one 8 (.one 9 (.one 11 (.one 12 (.done))))))))))))), [])), (10, (line [0, 1, 2, 3, 4, 5, 6, 7, 9, 11, 12, 14, 8, 10, 13, 15, 16, 17, 18, 19, 20, 21], []))] (schedQ_ok _ _ (by kernel_rfl)) [rowF (pt a n) (cellsL l)] (at1 hrow) ?_
  (conv => arg 5; whnf)
  refine meetc (f := 16) (v := .bool (fewB l && decide ((n : Int) ≤ 30))) rfl (by kernel_rfl) (fun β ρ w' hM' => rsmallA s b l a n c w' hs hn (hM'.at_ (.head _))) ?_
  (conv => arg 5; whnf)
  refine wp_g0 (fun hsm => ?_) (fun hsm => ?_)
  · have hl : l.length ≤ 30 := by simp at hsm; omega
    (conv => arg 5; whnf)
    refine meetc (f := 27) (v := .bool (decide (x.d.size ≤ 500))) rfl (by kernel_rfl) (fun β ρ w' hM' => rsmall x w') ?_
    (conv => arg 5; whnf)
    refine wp_g0 (fun hsx => ?_) (fun hsx => ?_)
    · (conv => arg 5; whnf)
      refine meetc (f := 27) (v := .bool (decide (y.d.size ≤ 500))) rfl (by kernel_rfl) (fun β ρ w' hM' => rsmall y w') ?_
      (conv => arg 5; whnf)
      refine wp_br (fun hsy => ?_) (fun hsy => ?_)
      · (conv => arg 5; whnf)
        refine meetc (f := 17) (v := .bool true) rfl (by kernel_rfl) (fun β ρ w' hM' => live w' (hM.later hM'.below)) ?_
        (conv => arg 5; whnf)
        exact wp_back fun β ρ w' hM' => ⟨rfl, hM'.below⟩
      · have U1 := fun w hr => put s b l a n c x w hs hn hr (by omega)
        have D1 := fun p c w (hs : Sl p (putV x l).length c) hr => drop s b (putV x l) p _ c x.n w hs rfl hr (by omega)
        have V1 := fun p c w (hs : Sl p (putV x l).length c) hr => put s b (putV x l) p _ c x w hs rfl hr (by omega)
        have V2 := fun p c w (hs : Sl p (putV x l).length c) hr => put s b (putV x l) p _ c y w hs rfl hr (by omega)
        have W1 := fun w hr => put s b l a n c y w hs hn hr (by omega)
        have W2 := fun p c w (hs : Sl p (putV y l).length c) hr => put s b (putV y l) p _ c x w hs rfl hr (by omega)
        rw [PA] at V1
        have F1 := fun p c w (hs : Sl p (putV x l).length c) hr => find s b (putV x l) p _ c x.n w hs rfl hr
        rw [PF] at F1
        generalize checkV s b 16 l = ck at C1 PC
        generalize dropV x.n (putV x l) = dr at D1 F2
        have PC2 : ck = true → x.ok = true → y.ok = true → x.n ≠ y.n → putV y (putV x l) = putV x (putV y l) := PC
        clear PC
        generalize putV y (putV x l) = uy at V2 PC2 PL3
        generalize putV x (putV y l) = ux at W2 PC2 PL4
        generalize putV y l = v at W1 W2 PL2 PL4
        generalize putV x l = u at U1 D1 V1 V2 F1 PL PL3
        generalize hox : x.ok = xo at PC2
        generalize hoy : y.ok = yo at PC2
        (conv => arg 5; whnf)
        refine meet1' (f := 33) (n := u.length) (v := fun a1 c1 => acc s b a1 u.length c1) (xs := cellsL u) rfl (by kernel_rfl) (fun β ρ w' hM' => U1 w' (hM'.at_ (.head _))) (fun p c_p h_p => ?_)
        (conv => arg 5; whnf)
        refine meetc (f := 18) (v := .tuple #[x.val, .bool true]) rfl (by kernel_rfl) (fun β ρ w' hM' => F1 p c_p w' h_p (hM'.at_ (.head _))) ?_
        (conv => arg 5; whnf)
        refine wp_prim (.bool false) (fun w => neq_same _ _ x w) ?_
        (conv => arg 5; whnf)
        refine meet1' (f := 33) (n := u.length) (v := fun a1 c1 => acc s b a1 u.length c1) (xs := cellsL u) rfl (by kernel_rfl) (fun β ρ w' hM' => V1 p c_p w' h_p (hM'.at_ (.head _))) (fun q c_q h_q => ?_)
        (conv => arg 5; whnf)
        refine meetc (f := 32) (v := .bool true) rfl (by kernel_rfl) (fun β ρ w' hM' => rsame s b u q u.length c_q p c_p w' h_q rfl (hM'.at_ (.head _)) h_p (hM'.at_ (.tail _ (.head _)))) ?_
        (conv => arg 5; whnf)
        refine wp_both ?_ ?_
        · (conv => arg 5; whnf)
          refine meet1' (f := 35) (n := dr.length) (v := fun a1 c1 => acc s b a1 dr.length c1) (xs := cellsL dr) rfl (by kernel_rfl) (fun β ρ w' hM' => D1 p c_p w' h_p (hM'.at_ (.tail _ (.head _)))) (fun r c_r h_r => ?_)
          (conv => arg 5; whnf)
          refine wp_both ?_ ?_
          · (conv => arg 5; whnf)
            refine meetc (f := 18) (v := .tuple #[tx0.val, .bool false]) rfl (by kernel_rfl) (fun β ρ w' hM' => F2 r c_r w' h_r (hM'.at_ (.head _))) ?_
            (conv => arg 5; whnf)
            refine meetc (f := 20) (v := .bool ck) rfl (by kernel_rfl) (fun β ρ w' hM' => C1 w' (hM.later hM'.below) (hM'.at_ (.tail _ (.tail _ (.tail _ (.head _)))))) ?_
            cases ck with
            | false =>
              (conv => arg 5; whnf)
              refine meetc (f := 17) (v := .bool true) rfl (by kernel_rfl) (fun β ρ w' hM' => live w' (hM.later hM'.below)) ?_
              (conv => arg 5; whnf)
              exact wp_back fun β ρ w' hM' => ⟨rfl, hM'.below⟩
            | true =>
              (conv => arg 5; whnf)
              refine meetc (f := 37) (v := .bool xo) rfl (by kernel_rfl) (fun β ρ w' hM' => hox ▸ rcheck x w') ?_
              cases xo with
              | false =>
                (conv => arg 5; whnf)
                refine meetc (f := 17) (v := .bool true) rfl (by kernel_rfl) (fun β ρ w' hM' => live w' (hM.later hM'.below)) ?_
                (conv => arg 5; whnf)
                exact wp_back fun β ρ w' hM' => ⟨rfl, hM'.below⟩
              | true =>
                (conv => arg 5; whnf)
                refine meetc (f := 37) (v := .bool yo) rfl (by kernel_rfl) (fun β ρ w' hM' => hoy ▸ rcheck y w') ?_
                cases yo with
                | false =>
                  (conv => arg 5; whnf)
                  refine meetc (f := 17) (v := .bool true) rfl (by kernel_rfl) (fun β ρ w' hM' => live w' (hM.later hM'.below)) ?_
                  (conv => arg 5; whnf)
                  exact wp_back fun β ρ w' hM' => ⟨rfl, hM'.below⟩
                | true =>
                  (conv => arg 5; whnf)
                  refine wp_g0 (fun hne => ?_) (fun heq => ?_)
                  · have he : uy = ux := PC2 rfl rfl rfl (by simpa using hne)
                    (conv => arg 5; whnf)
                    refine meet1' (f := 33) (n := u.length) (v := fun a1 c1 => acc s b a1 u.length c1) (xs := cellsL u) rfl (by kernel_rfl) (fun β ρ w' hM' => U1 w' (hM'.at_ (.tail _ (.tail _ (.tail _ (.head _)))))) (fun p2 c_p2 h_p2 => ?_)
                    (conv => arg 5; whnf)
                    refine meet1' (f := 33) (n := uy.length) (v := fun a1 c1 => acc s b a1 uy.length c1) (xs := cellsL uy) rfl (by kernel_rfl) (fun β ρ w' hM' => V2 p2 c_p2 w' h_p2 (hM'.at_ (.head _))) (fun p3 c_p3 h_p3 => ?_)
                    (conv => arg 5; whnf)
                    refine meet1' (f := 33) (n := v.length) (v := fun a1 c1 => acc s b a1 v.length c1) (xs := cellsL v) rfl (by kernel_rfl) (fun β ρ w' hM' => W1 w' (hM'.at_ (.tail _ (.tail _ (.tail _ (.tail _ (.tail _ (.head _)))))))) (fun p4 c_p4 h_p4 => ?_)
                    (conv => arg 5; whnf)
                    refine meet1' (f := 33) (n := uy.length) (v := fun a1 c1 => acc s b a1 uy.length c1) (xs := cellsL uy) rfl (by kernel_rfl) (fun β ρ w' hM' => he ▸ W2 p4 c_p4 w' h_p4 (hM'.at_ (.head _))) (fun p5 c_p5 h_p5 => ?_)
                    (conv => arg 5; whnf)
                    refine meetc (f := 32) (v := .bool true) rfl (by kernel_rfl) (fun β ρ w' hM' => rsame s b uy p3 uy.length c_p3 p5 c_p5 w' h_p3 rfl (hM'.at_ (.tail _ (.tail _ (.head _)))) h_p5 (hM'.at_ (.head _))) ?_
                    (conv => arg 5; whnf)
                    refine meetc (f := 17) (v := .bool true) rfl (by kernel_rfl) (fun β ρ w' hM' => live w' (hM.later hM'.below)) ?_
                    (conv => arg 5; whnf)
                    exact wp_back fun β ρ w' hM' => ⟨rfl, hM'.below⟩
                  · (conv => arg 5; whnf)
                    refine meetc (f := 17) (v := .bool true) rfl (by kernel_rfl) (fun β ρ w' hM' => live w' (hM.later hM'.below)) ?_
                    (conv => arg 5; whnf)
                    exact wp_back fun β ρ w' hM' => ⟨rfl, hM'.below⟩
          · (conv => arg 5; whnf)
            refine meetc (f := 18) (v := .tuple #[tx0.val, .bool false]) rfl (by kernel_rfl) (fun β ρ w' hM' => F2 r c_r w' h_r (hM'.at_ (.head _))) ?_
            (conv => arg 5; whnf)
            refine meetc (f := 20) (v := .bool ck) rfl (by kernel_rfl) (fun β ρ w' hM' => C1 w' (hM.later hM'.below) (hM'.at_ (.tail _ (.tail _ (.tail _ (.head _)))))) ?_
            cases ck with
            | false =>
              (conv => arg 5; whnf)
              refine meetc (f := 17) (v := .bool true) rfl (by kernel_rfl) (fun β ρ w' hM' => live w' (hM.later hM'.below)) ?_
              (conv => arg 5; whnf)
              exact wp_back fun β ρ w' hM' => ⟨rfl, hM'.below⟩
            | true =>
              (conv => arg 5; whnf)
              refine meetc (f := 37) (v := .bool xo) rfl (by kernel_rfl) (fun β ρ w' hM' => hox ▸ rcheck x w') ?_
              cases xo with
              | false =>
                (conv => arg 5; whnf)
                refine meetc (f := 17) (v := .bool true) rfl (by kernel_rfl) (fun β ρ w' hM' => live w' (hM.later hM'.below)) ?_
                (conv => arg 5; whnf)
                exact wp_back fun β ρ w' hM' => ⟨rfl, hM'.below⟩
              | true =>
                (conv => arg 5; whnf)
                refine meetc (f := 37) (v := .bool yo) rfl (by kernel_rfl) (fun β ρ w' hM' => hoy ▸ rcheck y w') ?_
                cases yo with
                | false =>
                  (conv => arg 5; whnf)
                  refine meetc (f := 17) (v := .bool true) rfl (by kernel_rfl) (fun β ρ w' hM' => live w' (hM.later hM'.below)) ?_
                  (conv => arg 5; whnf)
                  exact wp_back fun β ρ w' hM' => ⟨rfl, hM'.below⟩
                | true =>
                  (conv => arg 5; whnf)
                  refine wp_g0 (fun hne => ?_) (fun heq => ?_)
                  · have he : uy = ux := PC2 rfl rfl rfl (by simpa using hne)
                    (conv => arg 5; whnf)
                    refine meet1' (f := 33) (n := u.length) (v := fun a1 c1 => acc s b a1 u.length c1) (xs := cellsL u) rfl (by kernel_rfl) (fun β ρ w' hM' => U1 w' (hM'.at_ (.tail _ (.tail _ (.tail _ (.head _)))))) (fun p2 c_p2 h_p2 => ?_)
                    (conv => arg 5; whnf)
                    refine meet1' (f := 33) (n := uy.length) (v := fun a1 c1 => acc s b a1 uy.length c1) (xs := cellsL uy) rfl (by kernel_rfl) (fun β ρ w' hM' => V2 p2 c_p2 w' h_p2 (hM'.at_ (.head _))) (fun p3 c_p3 h_p3 => ?_)
                    (conv => arg 5; whnf)
                    refine meet1' (f := 33) (n := v.length) (v := fun a1 c1 => acc s b a1 v.length c1) (xs := cellsL v) rfl (by kernel_rfl) (fun β ρ w' hM' => W1 w' (hM'.at_ (.tail _ (.tail _ (.tail _ (.tail _ (.tail _ (.head _)))))))) (fun p4 c_p4 h_p4 => ?_)
                    (conv => arg 5; whnf)
                    refine meet1' (f := 33) (n := uy.length) (v := fun a1 c1 => acc s b a1 uy.length c1) (xs := cellsL uy) rfl (by kernel_rfl) (fun β ρ w' hM' => he ▸ W2 p4 c_p4 w' h_p4 (hM'.at_ (.head _))) (fun p5 c_p5 h_p5 => ?_)
                    (conv => arg 5; whnf)
                    refine meetc (f := 32) (v := .bool true) rfl (by kernel_rfl) (fun β ρ w' hM' => rsame s b uy p3 uy.length c_p3 p5 c_p5 w' h_p3 rfl (hM'.at_ (.tail _ (.tail _ (.head _)))) h_p5 (hM'.at_ (.head _))) ?_
                    (conv => arg 5; whnf)
                    refine meetc (f := 17) (v := .bool true) rfl (by kernel_rfl) (fun β ρ w' hM' => live w' (hM.later hM'.below)) ?_
                    (conv => arg 5; whnf)
                    exact wp_back fun β ρ w' hM' => ⟨rfl, hM'.below⟩
                  · (conv => arg 5; whnf)
                    refine meetc (f := 17) (v := .bool true) rfl (by kernel_rfl) (fun β ρ w' hM' => live w' (hM.later hM'.below)) ?_
                    (conv => arg 5; whnf)
                    exact wp_back fun β ρ w' hM' => ⟨rfl, hM'.below⟩
        · (conv => arg 5; whnf)
          refine meet1' (f := 35) (n := dr.length) (v := fun a1 c1 => acc s b a1 dr.length c1) (xs := cellsL dr) rfl (by kernel_rfl) (fun β ρ w' hM' => D1 p c_p w' h_p (hM'.at_ (.tail _ (.head _)))) (fun r c_r h_r => ?_)
          (conv => arg 5; whnf)
          refine meetc (f := 18) (v := .tuple #[tx0.val, .bool false]) rfl (by kernel_rfl) (fun β ρ w' hM' => F2 r c_r w' h_r (hM'.at_ (.head _))) ?_
          (conv => arg 5; whnf)
          refine meetc (f := 20) (v := .bool ck) rfl (by kernel_rfl) (fun β ρ w' hM' => C1 w' (hM.later hM'.below) (hM'.at_ (.tail _ (.tail _ (.tail _ (.head _)))))) ?_
          cases ck with
          | false =>
            (conv => arg 5; whnf)
            refine meetc (f := 17) (v := .bool true) rfl (by kernel_rfl) (fun β ρ w' hM' => live w' (hM.later hM'.below)) ?_
            (conv => arg 5; whnf)
            exact wp_back fun β ρ w' hM' => ⟨rfl, hM'.below⟩
          | true =>
            (conv => arg 5; whnf)
            refine meetc (f := 37) (v := .bool xo) rfl (by kernel_rfl) (fun β ρ w' hM' => hox ▸ rcheck x w') ?_
            cases xo with
            | false =>
              (conv => arg 5; whnf)
              refine meetc (f := 17) (v := .bool true) rfl (by kernel_rfl) (fun β ρ w' hM' => live w' (hM.later hM'.below)) ?_
              (conv => arg 5; whnf)
              exact wp_back fun β ρ w' hM' => ⟨rfl, hM'.below⟩
            | true =>
              (conv => arg 5; whnf)
              refine meetc (f := 37) (v := .bool yo) rfl (by kernel_rfl) (fun β ρ w' hM' => hoy ▸ rcheck y w') ?_
              cases yo with
              | false =>
                (conv => arg 5; whnf)
                refine meetc (f := 17) (v := .bool true) rfl (by kernel_rfl) (fun β ρ w' hM' => live w' (hM.later hM'.below)) ?_
                (conv => arg 5; whnf)
                exact wp_back fun β ρ w' hM' => ⟨rfl, hM'.below⟩
              | true =>
                (conv => arg 5; whnf)
                refine wp_g0 (fun hne => ?_) (fun heq => ?_)
                · have he : uy = ux := PC2 rfl rfl rfl (by simpa using hne)
                  (conv => arg 5; whnf)
                  refine meet1' (f := 33) (n := u.length) (v := fun a1 c1 => acc s b a1 u.length c1) (xs := cellsL u) rfl (by kernel_rfl) (fun β ρ w' hM' => U1 w' (hM'.at_ (.tail _ (.tail _ (.tail _ (.head _)))))) (fun p2 c_p2 h_p2 => ?_)
                  (conv => arg 5; whnf)
                  refine meet1' (f := 33) (n := uy.length) (v := fun a1 c1 => acc s b a1 uy.length c1) (xs := cellsL uy) rfl (by kernel_rfl) (fun β ρ w' hM' => V2 p2 c_p2 w' h_p2 (hM'.at_ (.head _))) (fun p3 c_p3 h_p3 => ?_)
                  (conv => arg 5; whnf)
                  refine meet1' (f := 33) (n := v.length) (v := fun a1 c1 => acc s b a1 v.length c1) (xs := cellsL v) rfl (by kernel_rfl) (fun β ρ w' hM' => W1 w' (hM'.at_ (.tail _ (.tail _ (.tail _ (.tail _ (.tail _ (.head _)))))))) (fun p4 c_p4 h_p4 => ?_)
                  (conv => arg 5; whnf)
                  refine meet1' (f := 33) (n := uy.length) (v := fun a1 c1 => acc s b a1 uy.length c1) (xs := cellsL uy) rfl (by kernel_rfl) (fun β ρ w' hM' => he ▸ W2 p4 c_p4 w' h_p4 (hM'.at_ (.head _))) (fun p5 c_p5 h_p5 => ?_)
                  (conv => arg 5; whnf)
                  refine meetc (f := 32) (v := .bool true) rfl (by kernel_rfl) (fun β ρ w' hM' => rsame s b uy p3 uy.length c_p3 p5 c_p5 w' h_p3 rfl (hM'.at_ (.tail _ (.tail _ (.head _)))) h_p5 (hM'.at_ (.head _))) ?_
                  (conv => arg 5; whnf)
                  refine meetc (f := 17) (v := .bool true) rfl (by kernel_rfl) (fun β ρ w' hM' => live w' (hM.later hM'.below)) ?_
                  (conv => arg 5; whnf)
                  exact wp_back fun β ρ w' hM' => ⟨rfl, hM'.below⟩
                · (conv => arg 5; whnf)
                  refine meetc (f := 17) (v := .bool true) rfl (by kernel_rfl) (fun β ρ w' hM' => live w' (hM.later hM'.below)) ?_
                  (conv => arg 5; whnf)
                  exact wp_back fun β ρ w' hM' => ⟨rfl, hM'.below⟩
    · (conv => arg 5; whnf)
      refine meetc (f := 17) (v := .bool true) rfl (by kernel_rfl) (fun β ρ w' hM' => live w' (hM.later hM'.below)) ?_
      (conv => arg 5; whnf)
      exact wp_back fun β ρ w' hM' => ⟨rfl, hM'.below⟩
  · (conv => arg 5; whnf)
    refine meetc (f := 17) (v := .bool true) rfl (by kernel_rfl) (fun β ρ w' hM' => live w' (hM.later hM'.below)) ?_
    (conv => arg 5; whnf)
    exact wp_back fun β ρ w' hM' => ⟨rfl, hM'.below⟩
end Go.Proofs.YtjejjgoagjkfdaaDoor.queuePuts
