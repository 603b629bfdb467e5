/- The walk of hopperlaw05.QueuePlaces. -/
import Derived.Test.YtjejjgoagjkfdaaDoorQueueLive
import Derived.Test.YtjejjgoagjkfdaaDoorQueueOpen
import Derived.Test.YtjejjgoagjkfdaaDoorQueueY
namespace Go.Proofs.YtjejjgoagjkfdaaDoor.queuePlaces
open Go.RowKit Sx txn queue
set_option linter.unusedVariables false
set_option linter.unusedSimpArgs false
set_option maxHeartbeats 4000000 in
set_option maxRecDepth 100000 in
theorem walk (s b : Int) (a : Option Addr) (n c : Nat) (l : List Tx) (x : Tx) (n0 n1 : Int) (w : World) (hM : Most w) (h : Sl a n c ∧ n = l.length ∧ At w (pt a n) (cellsL l) ∧ (∀ x ∈ l, Tx.fits x) ∧ Fits s ∧ Fits b) (hx : Tx.fits x) (hn2 : Fits n0 ∧ Fits n1) : Calls Tryd.prog 9 (List.toArray [.agg #[.int .i64 s, .int .i64 b, .slice a n c], x.val, .agg #[.int .i64 n0, .int .i64 n1]]) w fun e w' =>  e = .returned (.bool true) ∧ Below w.heap.size w w' := by
  obtain ⟨hs, hn, hrow, hft, hfs, hfb⟩ := h
  have hd : ∀ x ∈ l, x.d.size ≤ maxLen := fun x hx => (hft x hx).2.2.2.2.2
  have hdx : x.d.size ≤ maxLen := hx.2.2.2.2.2
  refine calls_of_exec env_ok.keeps Tryd.func9 rfl [] (schedQ_ok _ _ (by kernel_rfl)) [rowF (pt a n) (cellsL l)] (at1 hrow) ?_
  (conv => arg 5; whnf)
  refine meetc (f := 16) (v := .bool (fewB l && decide ((n : Int) ≤ 30))) rfl (by kernel_rfl) (fun β ρ w' hM' => rsmallA s b l a n c w' hs hn (hM'.at_ (.head _))) ?_
  (conv => arg 5; whnf)
  refine wp_g0 (fun hsm => ?_) (fun hsm => ?_)
  · have hl : l.length ≤ 30 := by simp at hsm; omega
    (conv => arg 5; whnf)
    refine meetc (f := 27) (v := .bool (decide (x.d.size ≤ 500))) rfl (by kernel_rfl) (fun β ρ w' hM' => rsmall x w') ?_
    (conv => arg 5; whnf)
    refine wp_br (fun hsx => ?_) (fun hsx => ?_)
    · (conv => arg 5; whnf)
      refine meetc (f := 17) (v := .bool true) rfl (by kernel_rfl) (fun β ρ w' hM' => live w' (hM.later hM'.below)) ?_
      (conv => arg 5; whnf)
      exact wp_back fun β ρ w' hM' => ⟨rfl, hM'.below⟩
    · have P1 := fun w hM hr => place s b n0 l a n c x n1 w hM hs hn hr hd hdx
      have F1 := fun w hr => find s b l a n c x.n w hs hn hr
      have C1 := fun w hM hr => check_ s b n0 l a n c w hM hs hn hr
      have PN := placeV_no (s := s) (b := b) (per := n0) (l := l) (t := x) (bump := n1)
      have PY := placeV_ok (s := s) (b := b) (per := n0) (l := l) (t := x) (bump := n1)
      generalize placeV s b n0 l x n1 = pv at P1 PN PY
      obtain ⟨p1, p2⟩ := pv
      generalize findV l x.n = fv at F1 PN PY
      obtain ⟨o, hb⟩ := fv
      simp only [] at PN PY
      by_cases hp : p2 = 0
      · subst hp
        obtain ⟨hc, hok, hxs, hbn, hor⟩ := PY rfl
        rw [hc] at C1
        have hbn : decide (x.n ≥ b) = true := by simpa using hbn
        have hxs : (x.s == s) = true := by simpa using hxs
        rcases hor with ⟨rfl, hr, _⟩ | ⟨rfl, hlt, _⟩
        · obtain ⟨r1, r2, _⟩ := replV_zero hr
          have hgt := raise_more r1
          have hgt : decide (x.t > o.t) = true := by simp; omega
          (conv => arg 5; whnf)
          refine wp_must ⟨by decide, by decide⟩ ?_
          (conv => arg 5; whnf)
          refine wp_must ⟨by decide, by decide⟩ ?_
          (conv => arg 5; whnf)
          refine meetc (f := 28) (v := .tuple #[.int .i64 p1, .int .i64 0]) rfl (by kernel_rfl) (fun β ρ w' hM' => P1 w' (hM.later hM'.below) (hM'.at_ (.head _))) ?_
          (conv => arg 5; whnf)
          refine meetc (f := 18) (v := .tuple #[o.val, .bool true]) rfl (by kernel_rfl) (fun β ρ w' hM' => F1 w' (hM'.at_ (.head _))) ?_
          (conv => arg 5; whnf)
          refine wp_g1 (fun _ => ?_) (fun h => by rw [hbn] at h; cases h)
          (conv => arg 5; whnf)
          refine wp_g1 (fun _ => ?_) (fun h => by rw [hgt] at h; cases h)
          (conv => arg 5; whnf)
          refine wp_must ⟨by decide, by decide⟩ ?_
          (conv => arg 5; whnf)
          refine meetc (f := 20) (v := .bool true) rfl (by kernel_rfl) (fun β ρ w' hM' => C1 w' (hM.later hM'.below) (hM'.at_ (.head _))) ?_
          (conv => arg 5; whnf)
          refine wp_g1 (fun _ => ?_) (fun h => by rw [hxs] at h; cases h)
          (conv => arg 5; whnf)
          refine meetc (f := 17) (v := .bool true) rfl (by kernel_rfl) (fun β ρ w' hM' => live w' (hM.later hM'.below)) ?_
          (conv => arg 5; whnf)
          exact wp_back fun β ρ w' hM' => ⟨rfl, hM'.below⟩
        · have hlt : decide ((n : Int) < n0) = true := by simp; omega
          (conv => arg 5; whnf)
          refine wp_must ⟨by decide, by decide⟩ ?_
          (conv => arg 5; whnf)
          refine wp_must ⟨by decide, by decide⟩ ?_
          (conv => arg 5; whnf)
          refine meetc (f := 28) (v := .tuple #[.int .i64 p1, .int .i64 0]) rfl (by kernel_rfl) (fun β ρ w' hM' => P1 w' (hM.later hM'.below) (hM'.at_ (.head _))) ?_
          (conv => arg 5; whnf)
          refine meetc (f := 18) (v := .tuple #[o.val, .bool false]) rfl (by kernel_rfl) (fun β ρ w' hM' => F1 w' (hM'.at_ (.head _))) ?_
          (conv => arg 5; whnf)
          refine wp_g1 (fun _ => ?_) (fun h => by rw [hbn] at h; cases h)
          (conv => arg 5; whnf)
          refine wp_must ⟨by decide, by decide⟩ ?_
          (conv => arg 5; whnf)
          refine wp_g1 (fun _ => ?_) (fun h => by rw [hlt] at h; cases h)
          (conv => arg 5; whnf)
          refine wp_must ⟨by decide, by decide⟩ ?_
          (conv => arg 5; whnf)
          refine meetc (f := 20) (v := .bool true) rfl (by kernel_rfl) (fun β ρ w' hM' => C1 w' (hM.later hM'.below) (hM'.at_ (.head _))) ?_
          (conv => arg 5; whnf)
          refine wp_g1 (fun _ => ?_) (fun h => by rw [hxs] at h; cases h)
          (conv => arg 5; whnf)
          refine meetc (f := 17) (v := .bool true) rfl (by kernel_rfl) (fun β ρ w' hM' => live w' (hM.later hM'.below)) ?_
          (conv => arg 5; whnf)
          exact wp_back fun β ρ w' hM' => ⟨rfl, hM'.below⟩
      · obtain ⟨rfl, hor⟩ := PN hp
        rcases hor with rfl | ⟨rfl, h3⟩ | ⟨rfl, rfl⟩ | ⟨rfl, h5⟩
        · (conv => arg 5; whnf)
          refine wp_must ⟨by decide, by decide⟩ ?_
          (conv => arg 5; whnf)
          refine wp_must ⟨by decide, by decide⟩ ?_
          (conv => arg 5; whnf)
          refine meetc (f := 28) (v := .tuple #[.int .i64 0, .int .i64 1]) rfl (by kernel_rfl) (fun β ρ w' hM' => P1 w' (hM.later hM'.below) (hM'.at_ (.head _))) ?_
          (conv => arg 5; whnf)
          refine meetc (f := 18) (v := .tuple #[o.val, .bool hb]) rfl (by kernel_rfl) (fun β ρ w' hM' => F1 w' (hM'.at_ (.head _))) ?_
          (conv => arg 5; whnf)
          refine meetc (f := 17) (v := .bool true) rfl (by kernel_rfl) (fun β ρ w' hM' => live w' (hM.later hM'.below)) ?_
          (conv => arg 5; whnf)
          exact wp_back fun β ρ w' hM' => ⟨rfl, hM'.below⟩
        · have h3 : decide (x.n < b) = true := by simpa using h3
          (conv => arg 5; whnf)
          refine wp_must ⟨by decide, by decide⟩ ?_
          (conv => arg 5; whnf)
          refine wp_must ⟨by decide, by decide⟩ ?_
          (conv => arg 5; whnf)
          refine meetc (f := 28) (v := .tuple #[.int .i64 0, .int .i64 3]) rfl (by kernel_rfl) (fun β ρ w' hM' => P1 w' (hM.later hM'.below) (hM'.at_ (.head _))) ?_
          (conv => arg 5; whnf)
          refine meetc (f := 18) (v := .tuple #[o.val, .bool hb]) rfl (by kernel_rfl) (fun β ρ w' hM' => F1 w' (hM'.at_ (.head _))) ?_
          (conv => arg 5; whnf)
          refine wp_g1 (fun _ => ?_) (fun h => by rw [h3] at h; cases h)
          (conv => arg 5; whnf)
          refine meetc (f := 17) (v := .bool true) rfl (by kernel_rfl) (fun β ρ w' hM' => live w' (hM.later hM'.below)) ?_
          (conv => arg 5; whnf)
          exact wp_back fun β ρ w' hM' => ⟨rfl, hM'.below⟩
        · (conv => arg 5; whnf)
          refine wp_must ⟨by decide, by decide⟩ ?_
          (conv => arg 5; whnf)
          refine wp_must ⟨by decide, by decide⟩ ?_
          (conv => arg 5; whnf)
          refine meetc (f := 28) (v := .tuple #[.int .i64 0, .int .i64 4]) rfl (by kernel_rfl) (fun β ρ w' hM' => P1 w' (hM.later hM'.below) (hM'.at_ (.head _))) ?_
          (conv => arg 5; whnf)
          refine meetc (f := 18) (v := .tuple #[o.val, .bool true]) rfl (by kernel_rfl) (fun β ρ w' hM' => F1 w' (hM'.at_ (.head _))) ?_
          (conv => arg 5; whnf)
          refine meetc (f := 17) (v := .bool true) rfl (by kernel_rfl) (fun β ρ w' hM' => live w' (hM.later hM'.below)) ?_
          (conv => arg 5; whnf)
          exact wp_back fun β ρ w' hM' => ⟨rfl, hM'.below⟩
        · have h5 : decide ((n : Int) ≥ n0) = true := by simp; omega
          (conv => arg 5; whnf)
          refine wp_must ⟨by decide, by decide⟩ ?_
          (conv => arg 5; whnf)
          refine wp_must ⟨by decide, by decide⟩ ?_
          (conv => arg 5; whnf)
          refine meetc (f := 28) (v := .tuple #[.int .i64 0, .int .i64 5]) rfl (by kernel_rfl) (fun β ρ w' hM' => P1 w' (hM.later hM'.below) (hM'.at_ (.head _))) ?_
          (conv => arg 5; whnf)
          refine meetc (f := 18) (v := .tuple #[o.val, .bool hb]) rfl (by kernel_rfl) (fun β ρ w' hM' => F1 w' (hM'.at_ (.head _))) ?_
          (conv => arg 5; whnf)
          refine wp_must ⟨by decide, by decide⟩ ?_
          (conv => arg 5; whnf)
          refine wp_g1 (fun _ => ?_) (fun h => by rw [h5] at h; cases h)
          (conv => arg 5; whnf)
          refine meetc (f := 17) (v := .bool true) rfl (by kernel_rfl) (fun β ρ w' hM' => live w' (hM.later hM'.below)) ?_
          (conv => arg 5; whnf)
          exact wp_back fun β ρ w' hM' => ⟨rfl, hM'.below⟩
  · (conv => arg 5; whnf)
    refine meetc (f := 17) (v := .bool true) rfl (by kernel_rfl) (fun β ρ w' hM' => live w' (hM.later hM'.below)) ?_
    (conv => arg 5; whnf)
    exact wp_back fun β ρ w' hM' => ⟨rfl, hM'.below⟩
end Go.Proofs.YtjejjgoagjkfdaaDoor.queuePlaces
