/- The walk of hopperlaw05.QueueChanges. -/
import Derived.Test.YtjejjgoagjkfdaaDoorQueueLive
import Derived.Test.YtjejjgoagjkfdaaDoorQueueOpen
namespace Go.Proofs.YtjejjgoagjkfdaaDoor.queueChanges
open Go.RowKit Sx txn queue
set_option linter.unusedVariables false
set_option linter.unusedSimpArgs false
set_option maxHeartbeats 4000000 in
set_option maxRecDepth 100000 in
theorem walk (s b : Int) (a : Option Addr) (n c : Nat) (l : List Tx) (x : Tx) (n0 n1 n2 : Int) (w : World) (hM : Most w) (h : Sl a n c ∧ n = l.length ∧ At w (pt a n) (cellsL l) ∧ (∀ x ∈ l, Tx.fits x) ∧ Fits s ∧ Fits b) (hx : Tx.fits x) (hn3 : Fits n0 ∧ Fits n1 ∧ Fits n2) : Calls Tryd.prog 4 (List.toArray [.agg #[.int .i64 s, .int .i64 b, .slice a n c], x.val, .agg #[.int .i64 n0, .int .i64 n1, .int .i64 n2]]) w fun e w' =>  e = .returned (.bool true) ∧ Below w.heap.size w w' := by
  obtain ⟨hs, hn, hrow, hft, hfs, hfb⟩ := h
  have hd : ∀ x ∈ l, x.d.size ≤ maxLen := fun x hx => (hft x hx).2.2.2.2.2
  have hdx : x.d.size ≤ maxLen := hx.2.2.2.2.2
  refine calls_of_exec env_ok.keeps Tryd.func4 rfl [(9, (line [0, 1, 3, 4, 2, 5, 6, 7, 8, 9, 10, 12, 13, 14, 11, 15, 16, 17, 18, 19, 20, 21], []))] (schedQ_ok _ _ (by kernel_rfl)) [rowF (pt a n) (cellsL l)] (at1 hrow) ?_
  (conv => arg 5; whnf)
  refine meetc (f := 16) (v := .bool (fewB l && decide ((n : Int) ≤ 30))) rfl (by kernel_rfl) (fun β ρ w' hM' => rsmallA s b l a n c w' hs hn (hM'.at_ (.head _))) ?_
  (conv => arg 5; whnf)
  refine wp_g0 (fun hsm => ?_) (fun hsm => ?_)
  · have hl : l.length ≤ 30 := by simp at hsm; omega
    have sl0 : Sl none 0 0 := ⟨Nat.le_refl _, by simp [maxLen], fun _ => ⟨rfl, rfl⟩⟩
    have at_nil : ∀ {w : World}, At w (pt none 0) (cellsL []) := fun g hg => by cases hg
    (conv => arg 5; whnf)
    refine meetc (f := 27) (v := .bool (decide (x.d.size ≤ 500))) rfl (by kernel_rfl) (fun β ρ w' hM' => rsmall x w') ?_
    (conv => arg 5; whnf)
    refine wp_br (fun hsx => ?_) (fun hsx => ?_)
    · (conv => arg 5; whnf)
      refine meetc (f := 17) (v := .bool true) rfl (by kernel_rfl) (fun β ρ w' hM' => live w' (hM.later hM'.below)) ?_
      (conv => arg 5; whnf)
      exact wp_back fun β ρ w' hM' => ⟨rfl, hM'.below⟩
    · have P1 := fun w hM hr => place s b n0 l a n c x n1 w hM hs hn hr hd hdx
      have P2 := fun w hM hr => rplace s b n0 l a n c x n1 w hM hs hn hr hd hdx
      have U1 := fun w hr => put s b l a n c x w hs hn hr (by omega)
      have U2 := fun w hr => rput s b l a n c x w hs hn hr (by omega)
      have D1 := fun w hr => drop s b l a n c n2 w hs hn hr (by omega)
      have D2 := fun w hr => rdrop s b l a n c n2 w hs hn hr (by omega)
      generalize placeV s b n0 l x n1 = pv at P1 P2
      obtain ⟨p1, p2⟩ := pv
      generalize putV x l = u at U1 U2
      generalize dropV n2 l = dr at D1 D2
      by_cases he : advV b n2 = 0
      · have A1 := fun w hr => advance_ok s b l a n c n2 w hs hn hr (by omega) he
        have A2 := fun w hr => radvance_ok s b l a n c n2 w hs hn hr (by omega) he
        generalize above n2 l = ab at A1 A2
        generalize below n2 l = be at A1 A2
        (conv => arg 5; whnf)
        refine wp_must ⟨by decide, by decide⟩ ?_
        (conv => arg 5; whnf)
        refine wp_must ⟨by decide, by decide⟩ ?_
        (conv => arg 5; whnf)
        refine meetc (f := 28) (v := .tuple #[.int .i64 p1, .int .i64 p2]) rfl (by kernel_rfl) (fun β ρ w' hM' => P1 w' (hM.later hM'.below) (hM'.at_ (.head _))) ?_
        (conv => arg 5; whnf)
        refine wp_must ⟨by decide, by decide⟩ ?_
        (conv => arg 5; whnf)
        refine wp_must ⟨by decide, by decide⟩ ?_
        (conv => arg 5; whnf)
        refine meetc (f := 29) (v := .tuple #[.int .i64 p1, .int .i64 p2]) rfl (by kernel_rfl) (fun β ρ w' hM' => P2 w' (hM.later hM'.below) (hM'.at_ (.head _))) ?_
        (conv => arg 5; whnf)
        refine wp_must ⟨by decide, by decide⟩ ?_
        (conv => arg 5; whnf)
        refine meet2' (f := 30) (n := ab.length) (n2 := be.length) (v := fun a1 c1 a2 c2 => .tuple #[acc s n2 a1 ab.length c1, .slice a2 be.length c2, .int .i64 0]) (xs := cellsL ab) (ys := cellsL be) rfl (by kernel_rfl) (fun β ρ w' hM' => A1 w' (hM'.at_ (.head _))) (fun d1 c_d1 g1 c_g1 h_d1 h_g1 => ?_)
        (conv => arg 5; whnf)
        refine wp_must ⟨by decide, by decide⟩ ?_
        (conv => arg 5; whnf)
        refine meet2' (f := 31) (n := ab.length) (n2 := be.length) (v := fun a1 c1 a2 c2 => .tuple #[acc s n2 a1 ab.length c1, .slice a2 be.length c2, .int .i64 0]) (xs := cellsL ab) (ys := cellsL be) rfl (by kernel_rfl) (fun β ρ w' hM' => A2 w' (hM'.at_ (.tail _ (.tail _ (.head _))))) (fun d2 c_d2 g2 c_g2 h_d2 h_g2 => ?_)
        (conv => arg 5; whnf)
        refine wp_g0 (fun _ => ?_) (fun h => by simp at h)
        (conv => arg 5; whnf)
        refine wp_g0 (fun _ => ?_) (fun h => by simp at h)
        (conv => arg 5; whnf)
        refine meetc (f := 32) (v := .bool true) rfl (by kernel_rfl) (fun β ρ w' hM' => rsame s n2 ab d1 ab.length c_d1 d2 c_d2 w' h_d1 rfl (hM'.at_ (.tail _ (.tail _ (.head _)))) h_d2 (hM'.at_ (.head _))) ?_
        (conv => arg 5; whnf)
        refine meetc (f := 22) (v := .bool true) rfl (by kernel_rfl) (fun β ρ w' hM' => rtxs be g1 be.length c_g1 g2 c_g2 w' h_g1 rfl (hM'.at_ (.tail _ (.tail _ (.tail _ (.head _))))) h_g2 (hM'.at_ (.tail _ (.head _)))) ?_
        (conv => arg 5; whnf)
        refine meet1' (f := 33) (n := u.length) (v := fun a1 c1 => acc s b a1 u.length c1) (xs := cellsL u) rfl (by kernel_rfl) (fun β ρ w' hM' => U1 w' (hM'.at_ (.tail _ (.tail _ (.tail _ (.tail _ (.head _))))))) (fun p c_p h_p => ?_)
        (conv => arg 5; whnf)
        refine meet1' (f := 34) (n := u.length) (v := fun a1 c1 => acc s b a1 u.length c1) (xs := cellsL u) rfl (by kernel_rfl) (fun β ρ w' hM' => U2 w' (hM'.at_ (.tail _ (.tail _ (.tail _ (.tail _ (.tail _ (.head _)))))))) (fun q c_q h_q => ?_)
        (conv => arg 5; whnf)
        refine meetc (f := 32) (v := .bool true) rfl (by kernel_rfl) (fun β ρ w' hM' => rsame s b u p u.length c_p q c_q w' h_p rfl (hM'.at_ (.tail _ (.head _))) h_q (hM'.at_ (.head _))) ?_
        (conv => arg 5; whnf)
        refine wp_must ⟨by decide, by decide⟩ ?_
        (conv => arg 5; whnf)
        refine wp_must ⟨by decide, by decide⟩ ?_
        (conv => arg 5; whnf)
        refine meet1' (f := 35) (n := dr.length) (v := fun a1 c1 => acc s b a1 dr.length c1) (xs := cellsL dr) rfl (by kernel_rfl) (fun β ρ w' hM' => D1 w' (hM'.at_ (.tail _ (.tail _ (.tail _ (.tail _ (.tail _ (.tail _ (.head _))))))))) (fun r c_r h_r => ?_)
        (conv => arg 5; whnf)
        refine meet1' (f := 36) (n := dr.length) (v := fun a1 c1 => acc s b a1 dr.length c1) (xs := cellsL dr) rfl (by kernel_rfl) (fun β ρ w' hM' => D2 w' (hM'.at_ (.tail _ (.tail _ (.tail _ (.tail _ (.tail _ (.tail _ (.tail _ (.head _)))))))))) (fun t c_t h_t => ?_)
        (conv => arg 5; whnf)
        refine meetc (f := 32) (v := .bool true) rfl (by kernel_rfl) (fun β ρ w' hM' => rsame s b dr r dr.length c_r t c_t w' h_r rfl (hM'.at_ (.tail _ (.head _))) h_t (hM'.at_ (.head _))) ?_
        (conv => arg 5; whnf)
        refine meetc (f := 17) (v := .bool true) rfl (by kernel_rfl) (fun β ρ w' hM' => live w' (hM.later hM'.below)) ?_
        (conv => arg 5; whnf)
        exact wp_back fun β ρ w' hM' => ⟨rfl, hM'.below⟩
      · have A1 := fun w hr => advance_no s b l a n c n2 w hs hn hr (by omega) he
        have A2 := fun w => radvance_no s b a n c n2 w he
        generalize advV b n2 = av at he A1 A2
        (conv => arg 5; whnf)
        refine wp_must ⟨by decide, by decide⟩ ?_
        (conv => arg 5; whnf)
        refine wp_must ⟨by decide, by decide⟩ ?_
        (conv => arg 5; whnf)
        refine meetc (f := 28) (v := .tuple #[.int .i64 p1, .int .i64 p2]) rfl (by kernel_rfl) (fun β ρ w' hM' => P1 w' (hM.later hM'.below) (hM'.at_ (.head _))) ?_
        (conv => arg 5; whnf)
        refine wp_must ⟨by decide, by decide⟩ ?_
        (conv => arg 5; whnf)
        refine wp_must ⟨by decide, by decide⟩ ?_
        (conv => arg 5; whnf)
        refine meetc (f := 29) (v := .tuple #[.int .i64 p1, .int .i64 p2]) rfl (by kernel_rfl) (fun β ρ w' hM' => P2 w' (hM.later hM'.below) (hM'.at_ (.head _))) ?_
        (conv => arg 5; whnf)
        refine wp_must ⟨by decide, by decide⟩ ?_
        (conv => arg 5; whnf)
        refine meet1' (f := 30) (n := n) (v := fun a1 c1 => .tuple #[acc s b a1 n c1, .slice none 0 0, .int .i64 av]) (xs := cellsL l) rfl (by kernel_rfl) (fun β ρ w' hM' => A1 w' (hM'.at_ (.head _))) (fun d1 c_d1 h_d1 => ?_)
        (conv => arg 5; whnf)
        refine wp_must ⟨by decide, by decide⟩ ?_
        (conv => arg 5; whnf)
        refine meetc (f := 31) (v := .tuple #[acc s b a n c, .slice none 0 0, .int .i64 av]) rfl (by kernel_rfl) (fun β ρ w' hM' => A2 w') ?_
        (conv => arg 5; whnf)
        refine wp_g0 (fun _ => ?_) (fun h => by simp at h)
        (conv => arg 5; whnf)
        refine wp_g0 (fun _ => ?_) (fun h => by simp at h)
        (conv => arg 5; whnf)
        refine meetc (f := 32) (v := .bool true) rfl (by kernel_rfl) (fun β ρ w' hM' => rsame s b l d1 n c_d1 a c w' h_d1 hn (hM'.at_ (.head _)) hs (hM'.at_ (.tail _ (.head _)))) ?_
        (conv => arg 5; whnf)
        refine meetc (f := 22) (v := .bool true) rfl (by kernel_rfl) (fun β ρ w' hM' => rtxs [] none 0 0 none 0 w' sl0 rfl at_nil sl0 at_nil) ?_
        (conv => arg 5; whnf)
        refine wp_br (fun h => by simp at h) (fun _ => ?_)
        (conv => arg 5; whnf)
        refine meet1' (f := 33) (n := u.length) (v := fun a1 c1 => acc s b a1 u.length c1) (xs := cellsL u) rfl (by kernel_rfl) (fun β ρ w' hM' => U1 w' (hM'.at_ (.tail _ (.head _)))) (fun p c_p h_p => ?_)
        (conv => arg 5; whnf)
        refine meet1' (f := 34) (n := u.length) (v := fun a1 c1 => acc s b a1 u.length c1) (xs := cellsL u) rfl (by kernel_rfl) (fun β ρ w' hM' => U2 w' (hM'.at_ (.tail _ (.tail _ (.head _))))) (fun q c_q h_q => ?_)
        (conv => arg 5; whnf)
        refine meetc (f := 32) (v := .bool true) rfl (by kernel_rfl) (fun β ρ w' hM' => rsame s b u p u.length c_p q c_q w' h_p rfl (hM'.at_ (.tail _ (.head _))) h_q (hM'.at_ (.head _))) ?_
        (conv => arg 5; whnf)
        refine wp_must ⟨by decide, by decide⟩ ?_
        (conv => arg 5; whnf)
        refine wp_must ⟨by decide, by decide⟩ ?_
        (conv => arg 5; whnf)
        refine meet1' (f := 35) (n := dr.length) (v := fun a1 c1 => acc s b a1 dr.length c1) (xs := cellsL dr) rfl (by kernel_rfl) (fun β ρ w' hM' => D1 w' (hM'.at_ (.tail _ (.tail _ (.tail _ (.head _)))))) (fun r c_r h_r => ?_)
        (conv => arg 5; whnf)
        refine meet1' (f := 36) (n := dr.length) (v := fun a1 c1 => acc s b a1 dr.length c1) (xs := cellsL dr) rfl (by kernel_rfl) (fun β ρ w' hM' => D2 w' (hM'.at_ (.tail _ (.tail _ (.tail _ (.tail _ (.head _))))))) (fun t c_t h_t => ?_)
        (conv => arg 5; whnf)
        refine meetc (f := 32) (v := .bool true) rfl (by kernel_rfl) (fun β ρ w' hM' => rsame s b dr r dr.length c_r t c_t w' h_r rfl (hM'.at_ (.tail _ (.head _))) h_t (hM'.at_ (.head _))) ?_
        (conv => arg 5; whnf)
        refine meetc (f := 17) (v := .bool true) rfl (by kernel_rfl) (fun β ρ w' hM' => live w' (hM.later hM'.below)) ?_
        (conv => arg 5; whnf)
        exact wp_back fun β ρ w' hM' => ⟨rfl, hM'.below⟩
  · (conv => arg 5; whnf)
    refine meetc (f := 17) (v := .bool true) rfl (by kernel_rfl) (fun β ρ w' hM' => live w' (hM.later hM'.below)) ?_
    (conv => arg 5; whnf)
    exact wp_back fun β ρ w' hM' => ⟨rfl, hM'.below⟩
end Go.Proofs.YtjejjgoagjkfdaaDoor.queueChanges
