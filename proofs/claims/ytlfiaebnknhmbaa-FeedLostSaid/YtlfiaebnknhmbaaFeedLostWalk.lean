/- The walk of hopperlaw14.FeedLost. -/
import Derived.Test.YtlfiaebnknhmbaaFeedM
namespace Go.Proofs.Ytlfiaebnknhmbaa.feedLost
open Go.RowKit Sx feed
set_option linter.unusedVariables false
set_option linter.unusedSimpArgs false
set_option maxHeartbeats 4000000 in
set_option maxRecDepth 100000 in
theorem walk (room : Int) (a : Option Addr) (n c : Nat) (l : List Ev) (w : World) (h3 : Fits room) (h : IsEvs w a n c l) : Calls Try.prog 6 (List.toArray [.int .i64 room, .slice a n c]) w fun e w' =>  e = .returned (.bool true) ∧ Below w.heap.size w w' := by
  obtain ⟨hs, hn, hrow, hft⟩ := h
  have hdl : ∀ x ∈ l, x.d.size ≤ maxLen := fun x hx => (hft x hx).2.2.2.2.2.2.1
  have hml : ∀ x ∈ l, Fits x.m := fun x hx => (hft x hx).2.2.2.2.2.2.2
  have hn63 := hs.le
  have hf0 : Fits 0 := by unfold Fits; decide
  refine calls_of_exec (env_ok.keeps.how []) Try.func6 rfl [(5, (line [0, 1, 2, 3, 4, 5, 6, 7, 8, 9, 10, 11, 12, 13, 14, 15, 16, 17, 18, 19, 20, 21, 22, 23, 24, 25, 26, 27, 28, 29], [])), (8, (.one 0 (.one 1 (.one 2 (.one 3 (.one 4 (.one 5 (.fork 6 (.one 7 (.one 8 (.done))) 7 (.one 6 (.one 8 (.done))))))))), []))] (schedQ_ok _ _ (by kernel_rfl)) [rowF (pt a n) (cellsE l)] (at1 hrow) ?_
  by_cases hr : 1 ≤ room ∧ room ≤ 16
  · have hN : newV room = (room, 0) := if_pos hr
    (conv => arg 5; whnf)
    refine meetc (f := 11) (v := .tuple #[fd room none 0 0 0, .int .i64 0]) rfl (by kernel_rfl) (fun β ρ w' hM' => newL room room 0 w' hN) ?_
    (conv => arg 5; whnf)
    refine meetc (f := 9) (v := .bool (fewB l && decide ((n : Int) ≤ 60))) rfl (by kernel_rfl) (fun β ρ w' hM' => rfew 60 a n c l w' hs hn (hM'.at_ (.head _)) hdl) ?_
    (conv => arg 5; whnf)
    refine wp_br (fun g2 => ?_) (fun g2 => ?_)
    · (conv => arg 5; whnf)
      refine meetc (f := 10) (v := .bool true) rfl (by kernel_rfl) (fun β ρ w' hM' => live w') ?_
      (conv => arg 5; whnf)
      exact wp_back fun β ρ w' hM' => ⟨rfl, hM'.below⟩
    · have hl : n ≤ 60 := by simp at g2; omega
      clear g2
      obtain ⟨k, hk⟩ : ∃ k : Nat, min room.toNat n = k := ⟨_, rfl⟩
      have hkn : k ≤ n := by omega
      have hkm : min room (n : Int) = (k : Nat) := by omega
      obtain ⟨ys, hys⟩ : ∃ ys, l.take k = ys := ⟨_, rfl⟩
      have hky : ys.length = k := by rw [← hys, List.length_take]; omega
      obtain ⟨lo, hlo⟩ : ∃ lo, max 0 ((n : Int) - room) = lo := ⟨_, rfl⟩
      have hT : tellV room ([], 0) l = (ys, lo) := by
        have h1 := tell_zero room l [] (by omega)
        have h2 : (room - (([] : List Ev).length : Nat)).toNat = room.toNat := by simp
        have h3 : max 0 ((l.length : Int) - max 0 (room - (([] : List Ev).length : Nat))) = lo := by rw [← hlo, ← hn]; simp; omega
        rw [h1, h2, h3, List.nil_append, ← hys]
        refine Prod.ext ?_ rfl
        by_cases hc : room.toNat ≤ n
        · rw [show k = room.toNat by omega]
        · rw [show k = n by omega, List.take_of_length_le (by omega), List.take_of_length_le (by omega)]
      have hnc := hs.1
      have hsb := sl_begin hs k hkn
      have hfl : Fits lo := by unfold Fits; omega
      have hlo0 : 0 ≤ lo := by omega
      have htl := length_tailV lo
      have hel : endV lo = 0 := by unfold endV; split <;> omega
      obtain ⟨t1, ht1⟩ : ∃ t1 : Nat, (tailV lo).length = t1 := ⟨_, rfl⟩
      have hal : (allV ys lo).length = k + t1 := by unfold allV; rw [List.length_append, hky, ht1]
      obtain ⟨al, hal2⟩ : ∃ al, allV ys lo = al := ⟨_, rfl⟩
      have ht2 : min 1 lo = (t1 : Nat) := by rw [← ht1, htl]; split <;> omega
      obtain ⟨j, hj⟩ : ∃ j : Nat, min 1 n = j := ⟨_, rfl⟩
      have hjm : min 1 (n : Int) = (j : Nat) := by omega
      have hjl : j = (l.take j).length := by rw [List.length_take]; omega
      have hT2 : tellV room ([], 0) (l.take j) = (l.take j, 0) := by
        have h1 := tell_zero room (l.take j) [] (by omega)
        rw [h1, List.nil_append]
        refine Prod.ext (List.take_of_length_le (by rw [← hjl]; simp; omega)) ?_
        show max 0 (((l.take j).length : Int) - max 0 (room - (([] : List Ev).length : Nat))) = 0
        rw [← hjl]; simp; omega
      have hsj := sl_begin hs j (by omega)
      have hrow_k : ∀ {w' : World}, At w' (pt a n) (cellsE l) → At w' (pt a k) (cellsE ys) := fun h => by rw [← hys]; exact at_begin h k hkn
      (conv => arg 5; whnf)
      refine meet1F (f := 19) (n := k) (v := fun a1 c1 => fd room a1 k c1 lo) (xs := cellsE ys) rfl (by kernel_rfl) (fun β ρ w' hM' => tellL room 0 none 0 0 [] a n c l w' sl_nil rfl hs hn (by decide) (by omega) hf0 k ys lo hky hT at_nil (hM'.at_ (.head _))) (fun t c_t h_t f_t => ?_)
      (conv => arg 5; whnf)
      refine wp_prim (.int .i64 (k : Nat)) (fun w => (min2_run _ _ _ _ w).trans (by rw [hkm])) ?_
      (conv => arg 5; whnf)
      refine wp_g0 (fun _ => ?_) (fun h => absurd h (by simp))
      (conv => arg 5; whnf)
      refine wp_must ⟨by omega, by omega⟩ ?_
      (conv => arg 5; whnf)
      refine wp_prim (.int .i64 lo) (fun w => (max2_run _ _ _ _ w).trans (by rw [hlo])) ?_
      (conv => arg 5; whnf)
      refine wp_g0 (fun _ => ?_) (fun h => absurd h (by simp))
      (conv => arg 5; whnf)
      refine wp_prim (.int .i64 (k : Nat)) (fun w => (min2_run _ _ _ _ w).trans (by rw [hkm])) ?_
      (conv => arg 5; whnf)
      refine wp_prim (.slice a k c) (fun w => slice_to a n c k w (by omega)) ?_
      (conv => arg 5; whnf)
      refine meetc (f := 18) (v := .bool true) rfl (by kernel_rfl) (fun β ρ w' hM' => events t k c_t ys a c w' h_t hky.symm (hM'.at_ (.head _)) hsb (hrow_k (hM'.at_ (.tail _ (.head _))))) ?_
      (conv => arg 5; whnf)
      refine meet2' (f := 15) (n := 0) (n2 := (k + t1)) (v := fun a1 c1 a2 c2 => .tuple #[fd room a1 0 c1 0, .slice a2 (k + t1) c2]) (xs := cellsE []) (ys := cellsE al) rfl (by kernel_rfl) (fun β ρ w' hM' => allL room lo t k c_t ys w' h_t hky.symm (by omega) (k + t1) al 0 hal hal2 hel (hM'.at_ (.head _))) (fun y c_y u c_u h_y h_u => ?_)
      (conv => arg 5; whnf)
      refine wp_prim (.int .i64 (j : Nat)) (fun w => (min2_run _ _ _ _ w).trans (by rw [hjm])) ?_
      (conv => arg 5; whnf)
      refine wp_prim (.slice a j c) (fun w => slice_to a n c j w (by omega)) ?_
      (conv => arg 5; whnf)
      refine wp_both ?_ ?_
      rotate_left
      · (conv => arg 5; whnf)
        refine meet1F (f := 19) (n := j) (v := fun a1 c1 => fd room a1 j c1 0) (xs := cellsE (l.take j)) rfl (by kernel_rfl) (fun β ρ w' hM' => tellL room 0 y 0 c_y [] a j c (l.take j) w' h_y rfl hsj hjl (by decide) (by rw [← hjl]; omega) hf0 j (l.take j) 0 hjl.symm hT2 (hM'.at_ (.head _)) (at_begin (hM'.at_ (.tail _ (.tail _ (.tail _ (.head _))))) j (by omega))) (fun z c_z h_z f_z => ?_)
        (conv => arg 5; whnf)
        refine wp_prim (.int .i64 (k : Nat)) (fun w => (min2_run _ _ _ _ w).trans (by rw [hkm])) ?_
        (conv => arg 5; whnf)
        refine wp_prim (.int .i64 (t1 : Nat)) (fun w => (min2_run _ _ _ _ w).trans (by rw [ht2])) ?_
        (conv => arg 5; whnf)
        refine wp_must ⟨by omega, by omega⟩ ?_
        (conv => arg 5; whnf)
        refine wp_g1 (fun _ => ?_) (fun h => by simp at h <;> omega)
        (conv => arg 5; whnf)
        refine wp_prim (.int .i64 (j : Nat)) (fun w => (min2_run _ _ _ _ w).trans (by rw [hjm])) ?_
        (conv => arg 5; whnf)
        refine wp_g1 (fun _ => ?_) (fun h => by simp at h)
        (conv => arg 5; whnf)
        refine meetc (f := 10) (v := .bool true) rfl (by kernel_rfl) (fun β ρ w' hM' => live w') ?_
        (conv => arg 5; whnf)
        exact wp_back fun β ρ w' hM' => ⟨rfl, hM'.below⟩
      (conv => arg 5; whnf)
      refine meet1F (f := 19) (n := j) (v := fun a1 c1 => fd room a1 j c1 0) (xs := cellsE (l.take j)) rfl (by kernel_rfl) (fun β ρ w' hM' => tellL room 0 y 0 c_y [] a j c (l.take j) w' h_y rfl hsj hjl (by decide) (by rw [← hjl]; omega) hf0 j (l.take j) 0 hjl.symm hT2 (hM'.at_ (.head _)) (at_begin (hM'.at_ (.tail _ (.tail _ (.tail _ (.head _))))) j (by omega))) (fun z c_z h_z f_z => ?_)
      (conv => arg 5; whnf)
      refine wp_prim (.int .i64 (k : Nat)) (fun w => (min2_run _ _ _ _ w).trans (by rw [hkm])) ?_
      (conv => arg 5; whnf)
      refine wp_prim (.int .i64 (t1 : Nat)) (fun w => (min2_run _ _ _ _ w).trans (by rw [ht2])) ?_
      (conv => arg 5; whnf)
      refine wp_must ⟨by omega, by omega⟩ ?_
      (conv => arg 5; whnf)
      refine wp_g1 (fun _ => ?_) (fun h => by simp at h <;> omega)
      (conv => arg 5; whnf)
      refine wp_prim (.int .i64 (j : Nat)) (fun w => (min2_run _ _ _ _ w).trans (by rw [hjm])) ?_
      (conv => arg 5; whnf)
      refine wp_g1 (fun _ => ?_) (fun h => by simp at h)
      (conv => arg 5; whnf)
      refine meetc (f := 10) (v := .bool true) rfl (by kernel_rfl) (fun β ρ w' hM' => live w') ?_
      (conv => arg 5; whnf)
      exact wp_back fun β ρ w' hM' => ⟨rfl, hM'.below⟩
  · have hN : newV room = (0, 1) := if_neg hr
    (conv => arg 5; whnf)
    refine meetc (f := 11) (v := .tuple #[fd 0 none 0 0 0, .int .i64 1]) rfl (by kernel_rfl) (fun β ρ w' hM' => newL room 0 1 w' hN) ?_
    (conv => arg 5; whnf)
    refine meetc (f := 10) (v := .bool true) rfl (by kernel_rfl) (fun β ρ w' hM' => live w') ?_
    (conv => arg 5; whnf)
    exact wp_back fun β ρ w' hM' => ⟨rfl, hM'.below⟩
end Go.Proofs.Ytlfiaebnknhmbaa.feedLost
