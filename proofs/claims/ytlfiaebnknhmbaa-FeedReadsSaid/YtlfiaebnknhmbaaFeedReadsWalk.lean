/- The walk of hopperlaw14.FeedReads. -/
import Derived.Test.YtlfiaebnknhmbaaFeedM
namespace Go.Proofs.Ytlfiaebnknhmbaa.feedReads
open Go.RowKit Sx feed
set_option linter.unusedVariables false
set_option linter.unusedSimpArgs false
set_option maxHeartbeats 4000000 in
set_option maxRecDepth 100000 in
theorem walk (r q : Int) (a : Option Addr) (n c : Nat) (l : List Ev) (b : Option Addr) (m d : Nat) (es : List Ev) (w : World) (h : IsEvs w a n c l ∧ Fits r ∧ Fits q) (h2 : IsEvs w b m d es) : Calls Try.prog 8 (List.toArray [fd r a n c q, .slice b m d]) w fun e w' =>  e = .returned (.bool true) ∧ Below w.heap.size w w' := by
  obtain ⟨⟨hs, hn, hrow, hft⟩, hfr, hfq⟩ := h
  obtain ⟨hs2, hm, hrow2, hft2⟩ := h2
  have hdl : ∀ x ∈ l, x.d.size ≤ maxLen := fun x hx => (hft x hx).2.2.2.2.2.2.1
  have hml : ∀ x ∈ l, Fits x.m := fun x hx => (hft x hx).2.2.2.2.2.2.2
  have hds : ∀ x ∈ es, x.d.size ≤ maxLen := fun x hx => (hft2 x hx).2.2.2.2.2.2.1
  have hms : ∀ x ∈ es, Fits x.m := fun x hx => (hft2 x hx).2.2.2.2.2.2.2
  have hn63 := hs.le
  have hm63 := hs2.le
  refine calls_of_exec (env_ok.keeps.how []) Try.func8 rfl [(6, (line [0, 1, 2, 3, 4, 5, 6, 7, 8, 9, 10, 11, 12, 13, 14, 15, 16, 17, 18, 19, 20, 21, 22, 23, 24, 25, 26, 27, 28, 29, 30, 31, 32, 33, 34, 35, 36], [])), (8, (line [0, 1, 2, 3, 4, 5, 6, 7, 8, 9, 10, 11, 12, 13, 14, 15, 16, 17, 18, 19], []))] (schedQ_ok _ _ (by kernel_rfl)) [rowF (pt a n) (cellsE l), rowF (pt b m) (cellsE es)] (at2 hrow hrow2) ?_
  (conv => arg 5; whnf)
  refine meetc (f := 9) (v := .bool (fewB l && decide ((n : Int) ≤ 60))) rfl (by kernel_rfl) (fun β ρ w' hM' => rfew 60 a n c l w' hs hn (hM'.at_ (.head _)) hdl) ?_
  (conv => arg 5; whnf)
  refine wp_g0 (fun g1 => ?_) (fun g1 => ?_)
  · (conv => arg 5; whnf)
    refine meetc (f := 9) (v := .bool (fewB es && decide ((m : Int) ≤ 60))) rfl (by kernel_rfl) (fun β ρ w' hM' => rfew 60 b m d es w' hs2 hm (hM'.at_ (.tail _ (.head _))) hds) ?_
    (conv => arg 5; whnf)
    refine wp_br (fun g2 => ?_) (fun g2 => ?_)
    · (conv => arg 5; whnf)
      refine meetc (f := 10) (v := .bool true) rfl (by kernel_rfl) (fun β ρ w' hM' => live w') ?_
      (conv => arg 5; whnf)
      exact wp_back fun β ρ w' hM' => ⟨rfl, hM'.below⟩
    · have hl : l.length ≤ 60 := by simp at g1; omega
      have hes : es.length ≤ 60 := by simp at g2; omega
      clear g1 g2
      have htl := length_tailV q
      obtain ⟨t1, ht1⟩ : ∃ t1 : Nat, (tailV q).length = t1 := ⟨_, rfl⟩
      rw [ht1] at htl
      have htle : t1 ≤ 1 := by rw [← ht1]; exact tailV_le q
      have hal : (allV l q).length = n + t1 := by unfold allV; rw [List.length_append, ht1, hn]
      have hat : (allV l q).take n = l := by unfold allV; rw [hn, List.take_left]
      have hlg : 0 < q → (allV l q)[n]? = some (lag q) := fun h => by unfold allV tailV; rw [if_pos h, hn, List.getElem?_append_right (Nat.le_refl _)]; simp
      obtain ⟨al, hal2⟩ : ∃ al, allV l q = al := ⟨_, rfl⟩
      obtain ⟨eq, heq⟩ : ∃ eq, endV q = eq := ⟨_, rfl⟩
      have heq0 : ¬ 0 < eq := by rw [← heq]; unfold endV; split <;> omega
      have heqz : 0 ≤ q → eq = 0 := fun h => by rw [← heq]; unfold endV; split <;> omega
      have hfe : Fits eq := by unfold Fits at hfq ⊢; rw [← heq]; unfold endV; split <;> omega
      have hle : lostV [] eq = eq := by unfold lostV; exact if_neg heq0
      have hhe : hdV [] eq = ev0 := by unfold hdV; exact if_neg heq0
      have hee : errV [] eq = 7 := by unfold errV; exact if_neg heq0
      have A1 := fun (w : World) hr => allL r q a n c l w hs hn (by omega) (n + t1) al eq hal hal2 heq hr
      rw [hal2] at hal hat hlg
      clear hal2 heq
      obtain ⟨ys, lo, hTV⟩ : ∃ ys lo, tellV r ([], eq) es = (ys, lo) := ⟨_, _, rfl⟩
      have hk : 0 ≤ q → max 0 (min r (m : Int)) = (ys.length : Nat) := fun h => by
        have h1 := tell_zero r es [] (by omega)
        rw [← heqz h, hTV] at h1
        have h2 := congrArg (fun p => p.1.length) h1
        simp only [List.nil_append, List.length_take, List.length_nil] at h2
        rw [h2]
        omega
      have hky : ys.length ≤ 60 := by
        have h1 := tellV_len (r := r) (l := es) (q := ([], eq))
        rw [hTV] at h1
        have h2 : ys.length ≤ 0 + es.length := h1
        omega
      (conv => arg 5; whnf)
      refine meet2' (f := 15) (n := 0) (n2 := (n + t1)) (v := fun a1 c1 a2 c2 => .tuple #[fd r a1 0 c1 eq, .slice a2 (n + t1) c2]) (xs := cellsE []) (ys := cellsE al) rfl (by kernel_rfl) (fun β ρ w' hM' => A1 w' (hM'.at_ (.head _))) (fun y c_y u c_u h_y h_u => ?_)
      (conv => arg 5; whnf)
      refine meet1F (f := 13) (n := 0) (v := fun a1 c1 => .tuple #[fd r a1 0 c1 eq, ev0.val, .int .i64 7]) (xs := cellsE []) rfl (by kernel_rfl) (fun β ρ w' hM' => readL r eq y 0 c_y [] w' h_y rfl (by decide) 0 [] eq 7 ev0 rfl rfl hle hhe hee (hM'.at_ (.head _))) (fun z c_z h_z f_z => ?_)
      (conv => arg 5; whnf)
      refine wp_g0 (fun _ => ?_) (fun h => by simp at h <;> omega)
      (conv => arg 5; whnf)
      refine wp_must ⟨by omega, by omega⟩ ?_
      (conv => arg 5; whnf)
      refine wp_g0 (fun _ => ?_) (fun h => by simp at h <;> omega)
      (conv => arg 5; whnf)
      refine wp_prim (.slice u n c_u) (fun w => slice_to u (n + t1) c_u n w (by have := h_u.1; omega)) ?_
      (conv => arg 5; whnf)
      refine meetc (f := 18) (v := .bool true) rfl (by kernel_rfl) (fun β ρ w' hM' => events u n c_u l a c w' (sl_begin h_u n (by omega)) hn (by have := at_begin (hM'.at_ (.tail _ (.tail _ (.head _)))) n (by omega); rw [hat] at this; exact this) hs (hM'.at_ (.tail _ (.tail _ (.tail _ (.head _)))))) ?_
      (conv => arg 5; whnf)
      refine wp_br (fun h => by simp at h) (fun _ => ?_)
      (conv => arg 5; whnf)
      refine wp_must ⟨by omega, by omega⟩ ?_
      (conv => arg 5; whnf)
      refine wp_g1 (fun g3 => ?_) (fun g3 => ?_)
      · have hq : 0 < q := by by_cases h : 0 < q; exact h; rw [if_neg h] at htl; simp at g3; omega
        have ht : t1 = 1 := by rw [if_pos hq] at htl; omega
        (conv => arg 5; whnf)
        refine wp_must ⟨by omega, by omega, h_u.some (show n < n + t1 by omega)⟩ ?_
        (conv => arg 5; whnf)
        refine readE (l := al) (k := n) (x := lag q) rfl (.tail _ (.tail _ (.head _))) (show n < n + t1 by omega) (h_u.some (show n < n + t1 by omega)) (hlg hq) rfl ?_
        (conv => arg 5; whnf)
        refine wp_prim (.bool false) (fun w => neq_same _ _ (lag q) w) ?_
        (conv => arg 5; whnf)
        refine wp_br (fun h => by simp at h; omega) (fun _ => ?_)
        (conv => arg 5; whnf)
        refine meet1F (f := 19) (n := ys.length) (v := fun a1 c1 => fd r a1 ys.length c1 lo) (xs := cellsE ys) rfl (by kernel_rfl) (fun β ρ w' hM' => tellL r eq y 0 c_y [] b m d es w' h_y rfl hs2 hm (by decide) (by omega) hfe ys.length ys lo rfl hTV (hM'.at_ (.tail _ (.head _))) (hM'.at_ (.tail _ (.tail _ (.tail _ (.tail _ (.head _))))))) (fun k c_k h_k f_k => ?_)
        (conv => arg 5; whnf)
        refine wp_g0 (fun g5 => ?_) (fun g5 => ?_)
        · have hq0 : 0 ≤ q := by simpa using g5
          (conv => arg 5; whnf)
          refine wp_prim (.int .i64 (min r (m : Int))) (fun w => min2_run _ _ _ _ w) ?_
          (conv => arg 5; whnf)
          refine wp_prim (.int .i64 (ys.length : Nat)) (fun w => (max2_run _ _ _ _ w).trans (by rw [hk hq0])) ?_
          (conv => arg 5; whnf)
          refine wp_g1 (fun _ => ?_) (fun h => by simp at h)
          (conv => arg 5; whnf)
          refine meetc (f := 10) (v := .bool true) rfl (by kernel_rfl) (fun β ρ w' hM' => live w') ?_
          (conv => arg 5; whnf)
          exact wp_back fun β ρ w' hM' => ⟨rfl, hM'.below⟩
        · (conv => arg 5; whnf)
          refine meetc (f := 10) (v := .bool true) rfl (by kernel_rfl) (fun β ρ w' hM' => live w') ?_
          (conv => arg 5; whnf)
          exact wp_back fun β ρ w' hM' => ⟨rfl, hM'.below⟩
      · (conv => arg 5; whnf)
        refine meet1F (f := 19) (n := ys.length) (v := fun a1 c1 => fd r a1 ys.length c1 lo) (xs := cellsE ys) rfl (by kernel_rfl) (fun β ρ w' hM' => tellL r eq y 0 c_y [] b m d es w' h_y rfl hs2 hm (by decide) (by omega) hfe ys.length ys lo rfl hTV (hM'.at_ (.tail _ (.head _))) (hM'.at_ (.tail _ (.tail _ (.tail _ (.tail _ (.head _))))))) (fun k c_k h_k f_k => ?_)
        (conv => arg 5; whnf)
        refine wp_g0 (fun g5 => ?_) (fun g5 => ?_)
        · have hq0 : 0 ≤ q := by simpa using g5
          (conv => arg 5; whnf)
          refine wp_prim (.int .i64 (min r (m : Int))) (fun w => min2_run _ _ _ _ w) ?_
          (conv => arg 5; whnf)
          refine wp_prim (.int .i64 (ys.length : Nat)) (fun w => (max2_run _ _ _ _ w).trans (by rw [hk hq0])) ?_
          (conv => arg 5; whnf)
          refine wp_g1 (fun _ => ?_) (fun h => by simp at h)
          (conv => arg 5; whnf)
          refine meetc (f := 10) (v := .bool true) rfl (by kernel_rfl) (fun β ρ w' hM' => live w') ?_
          (conv => arg 5; whnf)
          exact wp_back fun β ρ w' hM' => ⟨rfl, hM'.below⟩
        · (conv => arg 5; whnf)
          refine meetc (f := 10) (v := .bool true) rfl (by kernel_rfl) (fun β ρ w' hM' => live w') ?_
          (conv => arg 5; whnf)
          exact wp_back fun β ρ w' hM' => ⟨rfl, hM'.below⟩
  · (conv => arg 5; whnf)
    refine meetc (f := 10) (v := .bool true) rfl (by kernel_rfl) (fun β ρ w' hM' => live w') ?_
    (conv => arg 5; whnf)
    exact wp_back fun β ρ w' hM' => ⟨rfl, hM'.below⟩
end Go.Proofs.Ytlfiaebnknhmbaa.feedReads
