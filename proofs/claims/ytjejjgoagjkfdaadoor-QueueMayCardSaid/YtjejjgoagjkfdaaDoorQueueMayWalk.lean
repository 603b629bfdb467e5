/- The walk of hopperlaw05.QueueMay. -/
import Derived.Test.YtjejjgoagjkfdaaDoorQueueLive
import Derived.Test.YtjejjgoagjkfdaaDoorQueueOpen
import Derived.Test.YtjejjgoagjkfdaaDoorQueueY
import Derived.Test.YtjejjgoagjkfdaaDoorQueuePutsWalk
namespace Go.Proofs.YtjejjgoagjkfdaaDoor.queueMay
open Go.RowKit Sx txn queue
set_option linter.unusedVariables false
set_option linter.unusedSimpArgs false
set_option maxHeartbeats 4000000 in
set_option maxRecDepth 100000 in
theorem walk (s b : Int) (a : Option Addr) (n c : Nat) (l : List Tx) (x : Tx) (n0 n1 n2 : Int) (w : World) (hM : Most w) (h : Sl a n c ∧ n = l.length ∧ At w (pt a n) (cellsL l) ∧ (∀ x ∈ l, Tx.fits x) ∧ Fits s ∧ Fits b) (hx : Tx.fits x) (hn3 : Fits n0 ∧ Fits n1 ∧ Fits n2) : Calls Tryd.prog 5 (List.toArray [.agg #[.int .i64 s, .int .i64 b, .slice a n c], x.val, .agg #[.int .i64 n0, .int .i64 n1, .int .i64 n2]]) w fun e w' =>  e = .returned (.bool true) ∧ Below w.heap.size w w' := by
  obtain ⟨hs, hn, hrow, hft, hfs, hfb⟩ := h
  have hd : ∀ x ∈ l, x.d.size ≤ maxLen := fun x hx => (hft x hx).2.2.2.2.2
  have hdx : x.d.size ≤ maxLen := hx.2.2.2.2.2
  have C1 := fun w hM hr => check_ s b n0 l a n c w hM hs hn hr
  have P1 := fun w hM hr => place s b n0 l a n c x n1 w hM hs hn hr hd hdx
  have PL := queuePuts.putV_length x l
  have PD := placed (s := s) (b := b) (per := n0) (l := l) (t := x) (bump := n1)
  have hdu : ∀ z ∈ putV x l, z.d.size ≤ maxLen := fun z hz => (mem_putV hz).elim (fun h => h ▸ hdx) (hd z)
  have DN : findV (dropV x.n l) x.n = (tx0, false) := findV_none fun z hz => by
    simp only [dropV, List.mem_filter, bne_iff_ne, ne_eq] at hz
    exact hz.2
  have DL : (dropV x.n l).length ≤ l.length := List.length_filter_le _ _
  have F2 := fun d c w hs hr => find s b (dropV x.n l) d _ c x.n w hs rfl hr
  rw [DN] at F2
  refine calls_of_exec env_ok.keeps Tryd.func5 rfl [(5, (line [0, 1, 2, 3, 4, 5, 6, 7, 8, 9, 11, 13, 10, 12, 14, 15, 16, 17], [])), (11, (line [0, 1, 2, 3, 4, 5, 6, 7, 8, 9, 10, 11, 12, 13, 14, 15, 16, 17, 18, 20, 22, 19, 21, 23, 24, 25, 26, 27, 28, 29, 30, 31, 32, 33, 34], []))] (schedQ_ok _ _ (by kernel_rfl)) [rowF (pt a n) (cellsL l)] (at1 hrow) ?_
  (conv => arg 5; whnf)
  refine meetc (f := 16) (v := .bool (fewB l && decide ((n : Int) ≤ 30))) rfl (by kernel_rfl) (fun β ρ w' hM' => rsmallA s b l a n c w' hs hn (hM'.at_ (.head _))) ?_
  (conv => arg 5; whnf)
  refine wp_g0 (fun hsm => ?_) (fun hsm => ?_)
  · have hl : l.length ≤ 30 := by simp at hsm; omega
    (conv => arg 5; whnf)
    refine meetc (f := 27) (v := .bool (decide (x.d.size ≤ 500))) rfl (by kernel_rfl) (fun β ρ w' hM' => rsmall x w') ?_
    (conv => arg 5; whnf)
    refine wp_g0 (fun hsx => ?_) (fun hsx => ?_)
    · (conv => arg 5; whnf)
      refine wp_must ⟨by decide, by decide⟩ ?_
      (conv => arg 5; whnf)
      refine meetc (f := 20) (v := .bool (checkV s b n0 l)) rfl (by kernel_rfl) (fun β ρ w' hM' => C1 w' (hM.later hM'.below) (hM'.at_ (.head _))) ?_
      (conv => arg 5; whnf)
      refine wp_br (fun hc => ?_) (fun hc => ?_)
      · (conv => arg 5; whnf)
        refine meetc (f := 17) (v := .bool true) rfl (by kernel_rfl) (fun β ρ w' hM' => live w' (hM.later hM'.below)) ?_
        (conv => arg 5; whnf)
        exact wp_back fun β ρ w' hM' => ⟨rfl, hM'.below⟩
      · have hc : checkV s b n0 l = true := by simpa using hc
        have C3 := fun p c w hM (hs : Sl p (dropV x.n l).length c) hr => check_ s b n0 (dropV x.n l) p _ c w hM hs rfl hr
        rw [dropped hc] at C3
        have U1 := fun w hr => put s b l a n c x w hs hn hr (by omega)
        have D1 := fun w hr => drop s b l a n c x.n w hs hn hr (by omega)
        have S1 := fun w hM hr => slots_ s b l a n c w hM hs hn hr hd (by omega)
        have S2 := fun p c w hM (hs : Sl p (putV x l).length c) hr => slots_ s b (putV x l) p _ c w hM hs rfl hr hdu (by omega)
        have C2 := fun p c w hM (hs : Sl p (putV x l).length c) hr => check_ s b n0 (putV x l) p _ c w hM hs rfl hr
        have SB := slotsL_bd l
        have SB2 := slotsL_bd (putV x l)
        generalize placeV s b n0 l x n1 = pv at P1 PD
        obtain ⟨p1, p2⟩ := pv
        have PD : p2 = 0 → checkV s b n0 (putV x l) = true ∧ slotsL (putV x l) = slotsL l + p1 := PD
        generalize slotsL (putV x l) = su at S2 PD SB2
        generalize checkV s b n0 (putV x l) = cu at C2 PD
        generalize putV x l = u at U1 PL S2 C2 hdu SB2
        generalize dropV x.n l = dr at D1 DL F2 C3
        by_cases hp : p2 = 0
        · subst hp
          obtain ⟨rfl, rfl⟩ := PD rfl
          (conv => arg 5; whnf)
          refine wp_must ⟨by decide, by decide⟩ ?_
          (conv => arg 5; whnf)
          refine wp_must ⟨by decide, by decide⟩ ?_
          (conv => arg 5; whnf)
          refine meetc (f := 28) (v := .tuple #[.int .i64 p1, .int .i64 0]) rfl (by kernel_rfl) (fun β ρ w' hM' => P1 w' (hM.later hM'.below) (hM'.at_ (.head _))) ?_
          (conv => arg 5; whnf)
          refine meet1' (f := 33) (n := u.length) (v := fun a1 c1 => acc s b a1 u.length c1) (xs := cellsL u) rfl (by kernel_rfl) (fun β ρ w' hM' => U1 w' (hM'.at_ (.head _))) (fun p c_p h_p => ?_)
          (conv => arg 5; whnf)
          refine wp_must ⟨by decide, by decide⟩ ?_
          (conv => arg 5; whnf)
          refine meetc (f := 20) (v := .bool true) rfl (by kernel_rfl) (fun β ρ w' hM' => C2 p c_p w' (hM.later hM'.below) h_p (hM'.at_ (.head _))) ?_
          (conv => arg 5; whnf)
          refine meetc (f := 25) (v := .int .i64 (slotsL l + p1)) rfl (by kernel_rfl) (fun β ρ w' hM' => S2 p c_p w' (hM.later hM'.below) h_p (hM'.at_ (.head _))) ?_
          (conv => arg 5; whnf)
          refine meetc (f := 25) (v := .int .i64 (slotsL l)) rfl (by kernel_rfl) (fun β ρ w' hM' => S1 w' (hM.later hM'.below) (hM'.at_ (.tail _ (.head _)))) ?_
          (conv => arg 5; whnf)
          refine wp_must ⟨by omega, by omega⟩ ?_
          (conv => arg 5; whnf)
          refine wp_br (fun h => by simp at h) (fun _ => ?_)
          (conv => arg 5; whnf)
          refine meet1' (f := 35) (n := dr.length) (v := fun a1 c1 => acc s b a1 dr.length c1) (xs := cellsL dr) rfl (by kernel_rfl) (fun β ρ w' hM' => D1 w' (hM'.at_ (.tail _ (.head _)))) (fun r c_r h_r => ?_)
          (conv => arg 5; whnf)
          refine meetc (f := 18) (v := .tuple #[tx0.val, .bool false]) rfl (by kernel_rfl) (fun β ρ w' hM' => F2 r c_r w' h_r (hM'.at_ (.head _))) ?_
          (conv => arg 5; whnf)
          refine wp_must ⟨by decide, by decide⟩ ?_
          by_cases hf : advV b n2 = 0
          · have A1 := fun w hr => advance_ok s b l a n c n2 w hs hn hr (by omega) hf
            have AD := advanced hc hf
            have SA := slots_advance n2 l
            have hda : ∀ z ∈ above n2 l, z.d.size ≤ maxLen := fun z hz => hd z (List.mem_filter.1 hz).1
            have hdb : ∀ z ∈ below n2 l, z.d.size ≤ maxLen := fun z hz => hd z (List.mem_filter.1 hz).1
            have L1 : (above n2 l).length ≤ l.length := List.length_filter_le _ _
            have L2 : (below n2 l).length ≤ l.length := List.length_filter_le _ _
            have S3 := fun p c w hM (hs : Sl p (below n2 l).length c) hr => slots_ 0 0 (below n2 l) p _ c w hM hs rfl hr hdb (by omega)
            have S4 := fun p c w hM (hs : Sl p (above n2 l).length c) hr => slots_ s n2 (above n2 l) p _ c w hM hs rfl hr hda (by omega)
            have C4 := fun p c w hM (hs : Sl p (above n2 l).length c) hr => check_ s n2 n0 (above n2 l) p _ c w hM hs rfl hr
            have SB3 := slotsL_bd (below n2 l)
            have SB4 := slotsL_bd (above n2 l)
            rw [AD] at C4
            generalize below n2 l = be at A1 S3 SA hdb L2 SB3
            generalize above n2 l = ab at A1 S4 SA hda L1 C4 SB4
            (conv => arg 5; whnf)
            refine meet2' (f := 30) (n := ab.length) (n2 := be.length) (v := fun a1 c1 a2 c2 => .tuple #[acc s n2 a1 ab.length c1, .slice a2 be.length c2, .int .i64 0]) (xs := cellsL ab) (ys := cellsL be) rfl (by kernel_rfl) (fun β ρ w' hM' => A1 w' (hM'.at_ (.tail _ (.tail _ (.head _))))) (fun d c_d g c_g h_d h_g => ?_)
            (conv => arg 5; whnf)
            refine meetc (f := 25) (v := .int .i64 (slotsL be)) rfl (by kernel_rfl) (fun β ρ w' hM' => S3 g c_g w' (hM.later hM'.below) h_g (hM'.at_ (.tail _ (.head _)))) ?_
            (conv => arg 5; whnf)
            refine wp_must ⟨by decide, by decide⟩ ?_
            (conv => arg 5; whnf)
            refine meetc (f := 20) (v := .bool true) rfl (by kernel_rfl) (fun β ρ w' hM' => C3 r c_r w' (hM.later hM'.below) h_r (hM'.at_ (.tail _ (.tail _ (.head _))))) ?_
            (conv => arg 5; whnf)
            refine wp_must ⟨by decide, by decide⟩ ?_
            (conv => arg 5; whnf)
            refine meetc (f := 20) (v := .bool true) rfl (by kernel_rfl) (fun β ρ w' hM' => C4 d c_d w' (hM.later hM'.below) h_d (hM'.at_ (.head _))) ?_
            (conv => arg 5; whnf)
            refine meetc (f := 25) (v := .int .i64 (slotsL ab)) rfl (by kernel_rfl) (fun β ρ w' hM' => S4 d c_d w' (hM.later hM'.below) h_d (hM'.at_ (.head _))) ?_
            (conv => arg 5; whnf)
            refine wp_must ⟨by omega, by omega⟩ ?_
            (conv => arg 5; whnf)
            refine meetc (f := 25) (v := .int .i64 (slotsL l)) rfl (by kernel_rfl) (fun β ρ w' hM' => S1 w' (hM.later hM'.below) (hM'.at_ (.tail _ (.tail _ (.tail _ (.tail _ (.head _))))))) ?_
            (conv => arg 5; whnf)
            refine wp_g0 (fun _ => ?_) (fun h => by simp at h; omega)
            (conv => arg 5; whnf)
            refine wp_must ⟨by decide, by decide⟩ ?_
            (conv => arg 5; whnf)
            refine wp_br (fun h => by simp at h) (fun _ => ?_)
            (conv => arg 5; whnf)
            refine meetc (f := 17) (v := .bool true) rfl (by kernel_rfl) (fun β ρ w' hM' => live w' (hM.later hM'.below)) ?_
            (conv => arg 5; whnf)
            exact wp_back fun β ρ w' hM' => ⟨rfl, hM'.below⟩
          · have A1 := fun w hr => advance_no s b l a n c n2 w hs hn hr (by omega) hf
            generalize advV b n2 = ef at A1 hf
            have heq : (ef == 0) = false := by simpa using hf
            have S3 := fun w hM hr => slots_ 0 0 [] none 0 0 w hM ⟨Nat.le_refl _, by simp [maxLen], fun _ => ⟨rfl, rfl⟩⟩ rfl hr (by simp) (by omega)
            (conv => arg 5; whnf)
            refine meet1' (f := 30) (n := n) (v := fun a1 c1 => .tuple #[acc s b a1 n c1, .slice none 0 0, .int .i64 ef]) (xs := cellsL l) rfl (by kernel_rfl) (fun β ρ w' hM' => A1 w' (hM'.at_ (.tail _ (.tail _ (.head _))))) (fun d c_d h_d => ?_)
            (conv => arg 5; whnf)
            refine meetc (f := 25) (v := .int .i64 0) rfl (by kernel_rfl) (fun β ρ w' hM' => S3 w' (hM.later hM'.below) (fun g hg => by cases hg)) ?_
            (conv => arg 5; whnf)
            refine wp_must ⟨by decide, by decide⟩ ?_
            (conv => arg 5; whnf)
            refine meetc (f := 20) (v := .bool true) rfl (by kernel_rfl) (fun β ρ w' hM' => C3 r c_r w' (hM.later hM'.below) h_r (hM'.at_ (.tail _ (.head _)))) ?_
            (conv => arg 5; whnf)
            refine wp_g1 (fun h => by rw [heq] at h; cases h) (fun _ => ?_)
            (conv => arg 5; whnf)
            refine meetc (f := 17) (v := .bool true) rfl (by kernel_rfl) (fun β ρ w' hM' => live w' (hM.later hM'.below)) ?_
            (conv => arg 5; whnf)
            exact wp_back fun β ρ w' hM' => ⟨rfl, hM'.below⟩
        · have hne : (p2 == 0) = false := by simpa using hp
          (conv => arg 5; whnf)
          refine wp_must ⟨by decide, by decide⟩ ?_
          (conv => arg 5; whnf)
          refine wp_must ⟨by decide, by decide⟩ ?_
          (conv => arg 5; whnf)
          refine meetc (f := 28) (v := .tuple #[.int .i64 p1, .int .i64 p2]) rfl (by kernel_rfl) (fun β ρ w' hM' => P1 w' (hM.later hM'.below) (hM'.at_ (.head _))) ?_
          (conv => arg 5; whnf)
          refine meet1' (f := 33) (n := u.length) (v := fun a1 c1 => acc s b a1 u.length c1) (xs := cellsL u) rfl (by kernel_rfl) (fun β ρ w' hM' => U1 w' (hM'.at_ (.head _))) (fun p c_p h_p => ?_)
          (conv => arg 5; whnf)
          refine wp_g1 (fun h => by rw [hne] at h; cases h) (fun _ => ?_)
          (conv => arg 5; whnf)
          refine meet1' (f := 35) (n := dr.length) (v := fun a1 c1 => acc s b a1 dr.length c1) (xs := cellsL dr) rfl (by kernel_rfl) (fun β ρ w' hM' => D1 w' (hM'.at_ (.tail _ (.head _)))) (fun r c_r h_r => ?_)
          (conv => arg 5; whnf)
          refine meetc (f := 18) (v := .tuple #[tx0.val, .bool false]) rfl (by kernel_rfl) (fun β ρ w' hM' => F2 r c_r w' h_r (hM'.at_ (.head _))) ?_
          (conv => arg 5; whnf)
          refine wp_must ⟨by decide, by decide⟩ ?_
          by_cases hf : advV b n2 = 0
          · have A1 := fun w hr => advance_ok s b l a n c n2 w hs hn hr (by omega) hf
            have AD := advanced hc hf
            have SA := slots_advance n2 l
            have hda : ∀ z ∈ above n2 l, z.d.size ≤ maxLen := fun z hz => hd z (List.mem_filter.1 hz).1
            have hdb : ∀ z ∈ below n2 l, z.d.size ≤ maxLen := fun z hz => hd z (List.mem_filter.1 hz).1
            have L1 : (above n2 l).length ≤ l.length := List.length_filter_le _ _
            have L2 : (below n2 l).length ≤ l.length := List.length_filter_le _ _
            have S3 := fun p c w hM (hs : Sl p (below n2 l).length c) hr => slots_ 0 0 (below n2 l) p _ c w hM hs rfl hr hdb (by omega)
            have S4 := fun p c w hM (hs : Sl p (above n2 l).length c) hr => slots_ s n2 (above n2 l) p _ c w hM hs rfl hr hda (by omega)
            have C4 := fun p c w hM (hs : Sl p (above n2 l).length c) hr => check_ s n2 n0 (above n2 l) p _ c w hM hs rfl hr
            have SB3 := slotsL_bd (below n2 l)
            have SB4 := slotsL_bd (above n2 l)
            rw [AD] at C4
            generalize below n2 l = be at A1 S3 SA hdb L2 SB3
            generalize above n2 l = ab at A1 S4 SA hda L1 C4 SB4
            (conv => arg 5; whnf)
            refine meet2' (f := 30) (n := ab.length) (n2 := be.length) (v := fun a1 c1 a2 c2 => .tuple #[acc s n2 a1 ab.length c1, .slice a2 be.length c2, .int .i64 0]) (xs := cellsL ab) (ys := cellsL be) rfl (by kernel_rfl) (fun β ρ w' hM' => A1 w' (hM'.at_ (.tail _ (.tail _ (.head _))))) (fun d c_d g c_g h_d h_g => ?_)
            (conv => arg 5; whnf)
            refine meetc (f := 25) (v := .int .i64 (slotsL be)) rfl (by kernel_rfl) (fun β ρ w' hM' => S3 g c_g w' (hM.later hM'.below) h_g (hM'.at_ (.tail _ (.head _)))) ?_
            (conv => arg 5; whnf)
            refine wp_must ⟨by decide, by decide⟩ ?_
            (conv => arg 5; whnf)
            refine meetc (f := 20) (v := .bool true) rfl (by kernel_rfl) (fun β ρ w' hM' => C3 r c_r w' (hM.later hM'.below) h_r (hM'.at_ (.tail _ (.tail _ (.head _))))) ?_
            (conv => arg 5; whnf)
            refine wp_must ⟨by decide, by decide⟩ ?_
            (conv => arg 5; whnf)
            refine meetc (f := 20) (v := .bool true) rfl (by kernel_rfl) (fun β ρ w' hM' => C4 d c_d w' (hM.later hM'.below) h_d (hM'.at_ (.head _))) ?_
            (conv => arg 5; whnf)
            refine meetc (f := 25) (v := .int .i64 (slotsL ab)) rfl (by kernel_rfl) (fun β ρ w' hM' => S4 d c_d w' (hM.later hM'.below) h_d (hM'.at_ (.head _))) ?_
            (conv => arg 5; whnf)
            refine wp_must ⟨by omega, by omega⟩ ?_
            (conv => arg 5; whnf)
            refine meetc (f := 25) (v := .int .i64 (slotsL l)) rfl (by kernel_rfl) (fun β ρ w' hM' => S1 w' (hM.later hM'.below) (hM'.at_ (.tail _ (.tail _ (.tail _ (.tail _ (.head _))))))) ?_
            (conv => arg 5; whnf)
            refine wp_g0 (fun _ => ?_) (fun h => by simp at h; omega)
            (conv => arg 5; whnf)
            refine wp_must ⟨by decide, by decide⟩ ?_
            (conv => arg 5; whnf)
            refine wp_br (fun h => by simp at h) (fun _ => ?_)
            (conv => arg 5; whnf)
            refine meetc (f := 17) (v := .bool true) rfl (by kernel_rfl) (fun β ρ w' hM' => live w' (hM.later hM'.below)) ?_
            (conv => arg 5; whnf)
            exact wp_back fun β ρ w' hM' => ⟨rfl, hM'.below⟩
          · have A1 := fun w hr => advance_no s b l a n c n2 w hs hn hr (by omega) hf
            generalize advV b n2 = ef at A1 hf
            have heq : (ef == 0) = false := by simpa using hf
            have S3 := fun w hM hr => slots_ 0 0 [] none 0 0 w hM ⟨Nat.le_refl _, by simp [maxLen], fun _ => ⟨rfl, rfl⟩⟩ rfl hr (by simp) (by omega)
            (conv => arg 5; whnf)
            refine meet1' (f := 30) (n := n) (v := fun a1 c1 => .tuple #[acc s b a1 n c1, .slice none 0 0, .int .i64 ef]) (xs := cellsL l) rfl (by kernel_rfl) (fun β ρ w' hM' => A1 w' (hM'.at_ (.tail _ (.tail _ (.head _))))) (fun d c_d h_d => ?_)
            (conv => arg 5; whnf)
            refine meetc (f := 25) (v := .int .i64 0) rfl (by kernel_rfl) (fun β ρ w' hM' => S3 w' (hM.later hM'.below) (fun g hg => by cases hg)) ?_
            (conv => arg 5; whnf)
            refine wp_must ⟨by decide, by decide⟩ ?_
            (conv => arg 5; whnf)
            refine meetc (f := 20) (v := .bool true) rfl (by kernel_rfl) (fun β ρ w' hM' => C3 r c_r w' (hM.later hM'.below) h_r (hM'.at_ (.tail _ (.head _)))) ?_
            (conv => arg 5; whnf)
            refine wp_g1 (fun h => by rw [heq] at h; cases h) (fun _ => ?_)
            (conv => arg 5; whnf)
            refine meetc (f := 17) (v := .bool true) rfl (by kernel_rfl) (fun β ρ w' hM' => live w' (hM.later hM'.below)) ?_
            (conv => arg 5; whnf)
            exact wp_back fun β ρ w' hM' => ⟨rfl, hM'.below⟩
    · (conv => arg 5; whnf)
      refine meetc (f := 17) (v := .bool true) rfl (by kernel_rfl) (fun β ρ w' hM' => live w' (hM.later hM'.below)) ?_
      (conv => arg 5; whnf)
      exact wp_back fun β ρ w' hM' => ⟨rfl, hM'.below⟩
  · (conv => arg 5; whnf)
    refine meetc (f := 17) (v := .bool true) rfl (by kernel_rfl) (fun β ρ w' hM' => live w' (hM.later hM'.below)) ?_
    (conv => arg 5; whnf)
    exact wp_back fun β ρ w' hM' => ⟨rfl, hM'.below⟩
end Go.Proofs.YtjejjgoagjkfdaaDoor.queueMay
