/- The walk of hopperlaw08.PipeCounts. -/
import Derived.Test.YtoaohkllkooibaaPipeOpen
namespace Go.Proofs.Ytoaohkllkooibaa.pipeCounts
open Go.RowKit Sx pipe
set_option linter.unusedVariables false
set_option linter.unusedSimpArgs false
set_option maxHeartbeats 4000000 in
set_option maxRecDepth 100000 in
theorem walk (room : Int) (sh : Bool) (a : Option Addr) (n c : Nat) (l : List It) (x : It) (w : World) (h : IsIts w a n c l ∧ Fits room) (hx : True) : Calls Try.prog 5 (List.toArray [pv room sh a n c, x.val]) w fun e w' =>  e = .returned (.bool true) ∧ Below w.heap.size w w' := by
  obtain ⟨⟨hs, hn, hrow⟩, hro⟩ := h
  have hn63 := hs.le
  subst hn
  refine calls_of_exec env_ok Try.func5 rfl [(3, (.one 0 (.one 2 (.fork 1 (.fork 3 (.one 4 (.one 5 (.one 6 (.one 7 (.one 8 (.one 9 (.done))))))) 7 (.one 3 (.one 4 (.one 5 (.one 6 (.one 8 (.one 9 (.done)))))))) 7 (.one 1 (.one 3 (.one 4 (.one 5 (.one 6 (.one 8 (.one 9 (.done)))))))))), [])), (7, (line [0, 1, 2, 3, 4, 5, 6, 7, 8, 9, 10, 11, 12, 13, 14, 15, 16, 17, 18, 19, 20, 21, 22, 23, 24, 25, 26, 27, 29, 28, 30, 31, 32, 33], [])), (9, (line [0, 1, 2, 3, 4, 5, 6, 7, 8, 9, 10, 11, 12, 13, 14, 15, 16, 17, 18, 19, 20, 21, 22, 23, 24, 25, 26, 27, 28, 29, 30, 32, 31, 33, 34, 35, 36], []))] (schedQ_ok _ _ (by kernel_rfl)) [rowF (pt a l.length) (cellsE l)] (at1 hrow) ?_
  (conv => arg 5; whnf)
  refine meetc (f := 7) (v := .bool (decide ((l.length : Int) ≤ 40))) rfl (by kernel_rfl) (fun β ρ w' hM' => small room sh a l.length c w') ?_
  (conv => arg 5; whnf)
  refine wp_br (fun g1 => ?_) (fun g1 => ?_)
  · (conv => arg 5; whnf)
    refine meetc (f := 8) (v := .bool true) rfl (by kernel_rfl) (fun β ρ w' hM' => live w') ?_
    (conv => arg 5; whnf)
    exact wp_back fun β ρ w' hM' => ⟨rfl, hM'.below⟩
  · have hl40 : l.length ≤ 40 := by simp at g1; omega
    have hl : l.length ≤ 100000 := by omega
    obtain ⟨ys, hys⟩ : ∃ ys, sendV room sh l x = ys := ⟨_, rfl⟩
    obtain ⟨er, her⟩ : ∃ er, sendR room sh l = er := ⟨_, rfl⟩
    obtain ⟨zs, hzs⟩ : ∃ zs, l.tail = zs := ⟨_, rfl⟩
    obtain ⟨x2, hx2⟩ : ∃ x2, recvX l = x2 := ⟨_, rfl⟩
    obtain ⟨e2, he2⟩ : ∃ e2, recvE l sh = e2 := ⟨_, rfl⟩
    obtain ⟨e3, he3⟩ : ∃ e3, (if sh = true then (8 : Int) else 0) = e3 := ⟨_, rfl⟩
    have hC1 : (er = 0 ∧ ys = l ++ [x]) ∨ ∃ q : Nat, er = ((q + 1 : Nat) : Int) ∧ l = ys := by
      rw [← hys, ← her]
      unfold sendV sendR
      cases sh with
      | true => exact .inr ⟨7, rfl, rfl⟩
      | false =>
        simp only [Bool.false_eq_true, if_false]
        by_cases hc : (l.length : Int) < room
        · rw [if_pos hc, if_pos hc]; exact .inl ⟨rfl, rfl⟩
        · rw [if_neg hc, if_neg hc]; exact .inr ⟨5, rfl, rfl⟩
    have hC2 : (e2 = 0 ∧ l[0]? = some x2 ∧ zs.length = l.length - 1 ∧ 1 ≤ l.length) ∨ ∃ q : Nat, e2 = ((q + 1 : Nat) : Int) ∧ l = zs := by
      rw [← hzs, ← he2, ← hx2]
      cases l with
      | cons y l => exact .inl ⟨rfl, rfl, rfl, by simp⟩
      | nil =>
        cases sh with
        | true => exact .inr ⟨7, rfl, rfl⟩
        | false => exact .inr ⟨6, rfl, rfl⟩
    (conv => arg 5; whnf)
    refine wp_both ?_ ?_
    rotate_left
    · (conv => arg 5; whnf)
      refine meet1F (f := 9) (n := l.length) (v := fun a1 c1 => pv room sh a1 l.length c1) (xs := cellsE l) rfl (by kernel_rfl) (fun β ρ w' hM' => own room sh a l.length c l w' hs rfl (hM'.at_ (.head _)) hl) (fun o1 c_o1 h_o1 f_o1 => ?_)
      (conv => arg 5; whnf)
      refine meet1F (f := 10) (n := ys.length) (v := fun a1 c1 => .tuple #[pv room sh a1 ys.length c1, .int .i64 er]) (xs := cellsE ys) rfl (by kernel_rfl) (fun β ρ w' hM' => sendT room sh o1 l.length c_o1 l w' h_o1 rfl hro x (by omega) ys.length ys er rfl hys her (hM'.at_ (.head _))) (fun y c_y h_y f_y => ?_)
      (conv => arg 5; whnf)
      refine meet1F (f := 9) (n := l.length) (v := fun a1 c1 => pv room sh a1 l.length c1) (xs := cellsE l) rfl (by kernel_rfl) (fun β ρ w' hM' => own room sh a l.length c l w' hs rfl (hM'.at_ (.tail _ (.tail _ (.head _)))) hl) (fun o2 c_o2 h_o2 f_o2 => ?_)
      (conv => arg 5; whnf)
      refine meet1F (f := 12) (n := zs.length) (v := fun a1 c1 => .tuple #[pv room sh a1 zs.length c1, x2.val, .int .i64 e2]) (xs := cellsE zs) rfl (by kernel_rfl) (fun β ρ w' hM' => takeT room sh o2 l.length c_o2 l w' h_o2 rfl hro hl zs.length zs x2 e2 rfl hzs hx2 he2 (hM'.at_ (.head _))) (fun z c_z h_z f_z => ?_)
      (conv => arg 5; whnf)
      refine meet1F (f := 9) (n := l.length) (v := fun a1 c1 => pv room sh a1 l.length c1) (xs := cellsE l) rfl (by kernel_rfl) (fun β ρ w' hM' => own room sh a l.length c l w' hs rfl (hM'.at_ (.tail _ (.tail _ (.tail _ (.tail _ (.head _)))))) hl) (fun o3 c_o3 h_o3 f_o3 => ?_)
      (conv => arg 5; whnf)
      refine meet1F (f := 14) (n := l.length) (v := fun a1 c1 => .tuple #[pv room true a1 l.length c1, .int .i64 e3]) (xs := cellsE l) rfl (by kernel_rfl) (fun β ρ w' hM' => closeT room sh o3 l.length c_o3 l w' h_o3 rfl hro hl e3 he3 (hM'.at_ (.head _))) (fun k c_k h_k f_k => ?_)
      (conv => arg 5; whnf)
      refine meet1F (f := 10) (n := l.length) (v := fun a1 c1 => .tuple #[pv room true a1 l.length c1, .int .i64 8]) (xs := cellsE l) rfl (by kernel_rfl) (fun β ρ w' hM' => sendT room true k l.length c_k l w' h_k rfl hro x (by omega) l.length l 8 rfl rfl rfl (hM'.at_ (.head _))) (fun j c_j h_j f_j => ?_)
      rcases hC1 with ⟨rfl, hyx⟩ | ⟨q1, rfl, hyl⟩
      · have hlen : ys.length = l.length + 1 := by rw [hyx]; simp
        have hget : ys[l.length]? = some x := by rw [hyx]; simp
        (conv => arg 5; whnf)
        refine wp_must ⟨by omega, by omega⟩ ?_
        (conv => arg 5; whnf)
        refine wp_g0 (fun _ => ?_) (fun h => by first | (simp only [beq_iff_eq] at h; omega) | (simp at h <;> omega))
        (conv => arg 5; whnf)
        refine wp_must ⟨by omega, by omega, h_y.some (show l.length < ys.length by omega)⟩ ?_
        (conv => arg 5; whnf)
        refine readE (l := ys) (k := l.length) (x := x) rfl (.tail _ (.tail _ (.tail _ (.tail _ (.tail _ (.head _)))))) (show l.length < ys.length by omega) (h_y.some (show l.length < ys.length by omega)) hget rfl ?_
        (conv => arg 5; whnf)
        refine wp_prim (.bool false) (fun w => neq_sameR _ _ x w) ?_
        rcases hC2 with ⟨rfl, hx0, hzl, h1⟩ | ⟨q2, rfl, hzl⟩
        · (conv => arg 5; whnf)
          refine wp_g0 (fun _ => ?_) (fun h => by first | (simp only [beq_iff_eq] at h; omega) | (simp at h <;> omega))
          (conv => arg 5; whnf)
          refine wp_must ⟨by omega, by omega⟩ ?_
          (conv => arg 5; whnf)
          refine wp_g0 (fun _ => ?_) (fun h => by first | (simp only [beq_iff_eq] at h; omega) | (simp at h <;> omega))
          (conv => arg 5; whnf)
          refine wp_must ⟨by omega, by omega, hs.some h1⟩ ?_
          (conv => arg 5; whnf)
          refine readE (l := l) (k := 0) (x := x2) rfl (.tail _ (.tail _ (.tail _ (.tail _ (.tail _ (.tail _ (.tail _ (.head _)))))))) h1 (hs.some h1) hx0 rfl ?_
          (conv => arg 5; whnf)
          refine wp_prim (.bool false) (fun w => neq_sameR _ _ x2 w) ?_
          (conv => arg 5; whnf)
          refine wp_g1 (fun _ => ?_) (fun h => absurd h (by simp))
          (conv => arg 5; whnf)
          refine meetc (f := 8) (v := .bool true) rfl (by kernel_rfl) (fun β ρ w' hM' => live w') ?_
          (conv => arg 5; whnf)
          exact wp_back fun β ρ w' hM' => ⟨rfl, hM'.below⟩
        · subst hzl
          (conv => arg 5; whnf)
          refine meet1F (f := 19) (n := l.length) (v := fun a1 c1 => pv room sh a1 l.length c1) (xs := cellsE l) rfl (by kernel_rfl) (fun β ρ w' hM' => told room sh z l.length c_z l w' h_z rfl (hM'.at_ (.tail _ (.tail _ (.tail _ (.head _))))) hl) (fun t2 c_t2 h_t2 f_t2 => ?_)
          (conv => arg 5; whnf)
          refine meetc (f := 18) (v := .bool true) rfl (by kernel_rfl) (fun β ρ w' hM' => same room sh t2 l.length c_t2 l a c w' h_t2 rfl (hM'.at_ (.head _)) hs (hM'.at_ (.tail _ (.tail _ (.tail _ (.tail _ (.tail _ (.tail _ (.tail _ (.tail _ (.head _))))))))))) ?_
          (conv => arg 5; whnf)
          refine wp_g1 (fun _ => ?_) (fun h => absurd h (by simp))
          (conv => arg 5; whnf)
          refine meetc (f := 8) (v := .bool true) rfl (by kernel_rfl) (fun β ρ w' hM' => live w') ?_
          (conv => arg 5; whnf)
          exact wp_back fun β ρ w' hM' => ⟨rfl, hM'.below⟩
      · subst hyl
        (conv => arg 5; whnf)
        refine meet1F (f := 19) (n := l.length) (v := fun a1 c1 => pv room sh a1 l.length c1) (xs := cellsE l) rfl (by kernel_rfl) (fun β ρ w' hM' => told room sh y l.length c_y l w' h_y rfl (hM'.at_ (.tail _ (.tail _ (.tail _ (.tail _ (.tail _ (.head _))))))) hl) (fun t1 c_t1 h_t1 f_t1 => ?_)
        (conv => arg 5; whnf)
        refine meetc (f := 18) (v := .bool true) rfl (by kernel_rfl) (fun β ρ w' hM' => same room sh t1 l.length c_t1 l a c w' h_t1 rfl (hM'.at_ (.head _)) hs (hM'.at_ (.tail _ (.tail _ (.tail _ (.tail _ (.tail _ (.tail _ (.tail _ (.tail _ (.head _))))))))))) ?_
        rcases hC2 with ⟨rfl, hx0, hzl, h1⟩ | ⟨q2, rfl, hzl⟩
        · (conv => arg 5; whnf)
          refine wp_g0 (fun _ => ?_) (fun h => by first | (simp only [beq_iff_eq] at h; omega) | (simp at h <;> omega))
          (conv => arg 5; whnf)
          refine wp_must ⟨by omega, by omega⟩ ?_
          (conv => arg 5; whnf)
          refine wp_g0 (fun _ => ?_) (fun h => by first | (simp only [beq_iff_eq] at h; omega) | (simp at h <;> omega))
          (conv => arg 5; whnf)
          refine wp_must ⟨by omega, by omega, hs.some h1⟩ ?_
          (conv => arg 5; whnf)
          refine readE (l := l) (k := 0) (x := x2) rfl (.tail _ (.tail _ (.tail _ (.tail _ (.tail _ (.tail _ (.tail _ (.tail _ (.head _))))))))) h1 (hs.some h1) hx0 rfl ?_
          (conv => arg 5; whnf)
          refine wp_prim (.bool false) (fun w => neq_sameR _ _ x2 w) ?_
          (conv => arg 5; whnf)
          refine wp_g1 (fun _ => ?_) (fun h => absurd h (by simp))
          (conv => arg 5; whnf)
          refine meetc (f := 8) (v := .bool true) rfl (by kernel_rfl) (fun β ρ w' hM' => live w') ?_
          (conv => arg 5; whnf)
          exact wp_back fun β ρ w' hM' => ⟨rfl, hM'.below⟩
        · subst hzl
          (conv => arg 5; whnf)
          refine meet1F (f := 19) (n := l.length) (v := fun a1 c1 => pv room sh a1 l.length c1) (xs := cellsE l) rfl (by kernel_rfl) (fun β ρ w' hM' => told room sh z l.length c_z l w' h_z rfl (hM'.at_ (.tail _ (.tail _ (.tail _ (.tail _ (.head _)))))) hl) (fun t2 c_t2 h_t2 f_t2 => ?_)
          (conv => arg 5; whnf)
          refine meetc (f := 18) (v := .bool true) rfl (by kernel_rfl) (fun β ρ w' hM' => same room sh t2 l.length c_t2 l a c w' h_t2 rfl (hM'.at_ (.head _)) hs (hM'.at_ (.tail _ (.tail _ (.tail _ (.tail _ (.tail _ (.tail _ (.tail _ (.tail _ (.tail _ (.head _)))))))))))) ?_
          (conv => arg 5; whnf)
          refine wp_g1 (fun _ => ?_) (fun h => absurd h (by simp))
          (conv => arg 5; whnf)
          refine meetc (f := 8) (v := .bool true) rfl (by kernel_rfl) (fun β ρ w' hM' => live w') ?_
          (conv => arg 5; whnf)
          exact wp_back fun β ρ w' hM' => ⟨rfl, hM'.below⟩
    (conv => arg 5; whnf)
    refine meet1F (f := 9) (n := l.length) (v := fun a1 c1 => pv room sh a1 l.length c1) (xs := cellsE l) rfl (by kernel_rfl) (fun β ρ w' hM' => own room sh a l.length c l w' hs rfl (hM'.at_ (.head _)) hl) (fun o1 c_o1 h_o1 f_o1 => ?_)
    (conv => arg 5; whnf)
    refine wp_both ?_ ?_
    rotate_left
    · (conv => arg 5; whnf)
      refine meet1F (f := 10) (n := ys.length) (v := fun a1 c1 => .tuple #[pv room sh a1 ys.length c1, .int .i64 er]) (xs := cellsE ys) rfl (by kernel_rfl) (fun β ρ w' hM' => sendT room sh o1 l.length c_o1 l w' h_o1 rfl hro x (by omega) ys.length ys er rfl hys her (hM'.at_ (.head _))) (fun y c_y h_y f_y => ?_)
      (conv => arg 5; whnf)
      refine meet1F (f := 9) (n := l.length) (v := fun a1 c1 => pv room sh a1 l.length c1) (xs := cellsE l) rfl (by kernel_rfl) (fun β ρ w' hM' => own room sh a l.length c l w' hs rfl (hM'.at_ (.tail _ (.tail _ (.head _)))) hl) (fun o2 c_o2 h_o2 f_o2 => ?_)
      (conv => arg 5; whnf)
      refine meet1F (f := 12) (n := zs.length) (v := fun a1 c1 => .tuple #[pv room sh a1 zs.length c1, x2.val, .int .i64 e2]) (xs := cellsE zs) rfl (by kernel_rfl) (fun β ρ w' hM' => takeT room sh o2 l.length c_o2 l w' h_o2 rfl hro hl zs.length zs x2 e2 rfl hzs hx2 he2 (hM'.at_ (.head _))) (fun z c_z h_z f_z => ?_)
      (conv => arg 5; whnf)
      refine meet1F (f := 9) (n := l.length) (v := fun a1 c1 => pv room sh a1 l.length c1) (xs := cellsE l) rfl (by kernel_rfl) (fun β ρ w' hM' => own room sh a l.length c l w' hs rfl (hM'.at_ (.tail _ (.tail _ (.tail _ (.tail _ (.head _)))))) hl) (fun o3 c_o3 h_o3 f_o3 => ?_)
      (conv => arg 5; whnf)
      refine meet1F (f := 14) (n := l.length) (v := fun a1 c1 => .tuple #[pv room true a1 l.length c1, .int .i64 e3]) (xs := cellsE l) rfl (by kernel_rfl) (fun β ρ w' hM' => closeT room sh o3 l.length c_o3 l w' h_o3 rfl hro hl e3 he3 (hM'.at_ (.head _))) (fun k c_k h_k f_k => ?_)
      (conv => arg 5; whnf)
      refine meet1F (f := 10) (n := l.length) (v := fun a1 c1 => .tuple #[pv room true a1 l.length c1, .int .i64 8]) (xs := cellsE l) rfl (by kernel_rfl) (fun β ρ w' hM' => sendT room true k l.length c_k l w' h_k rfl hro x (by omega) l.length l 8 rfl rfl rfl (hM'.at_ (.head _))) (fun j c_j h_j f_j => ?_)
      rcases hC1 with ⟨rfl, hyx⟩ | ⟨q1, rfl, hyl⟩
      · have hlen : ys.length = l.length + 1 := by rw [hyx]; simp
        have hget : ys[l.length]? = some x := by rw [hyx]; simp
        (conv => arg 5; whnf)
        refine wp_must ⟨by omega, by omega⟩ ?_
        (conv => arg 5; whnf)
        refine wp_g0 (fun _ => ?_) (fun h => by first | (simp only [beq_iff_eq] at h; omega) | (simp at h <;> omega))
        (conv => arg 5; whnf)
        refine wp_must ⟨by omega, by omega, h_y.some (show l.length < ys.length by omega)⟩ ?_
        (conv => arg 5; whnf)
        refine readE (l := ys) (k := l.length) (x := x) rfl (.tail _ (.tail _ (.tail _ (.tail _ (.tail _ (.head _)))))) (show l.length < ys.length by omega) (h_y.some (show l.length < ys.length by omega)) hget rfl ?_
        (conv => arg 5; whnf)
        refine wp_prim (.bool false) (fun w => neq_sameR _ _ x w) ?_
        rcases hC2 with ⟨rfl, hx0, hzl, h1⟩ | ⟨q2, rfl, hzl⟩
        · (conv => arg 5; whnf)
          refine wp_g0 (fun _ => ?_) (fun h => by first | (simp only [beq_iff_eq] at h; omega) | (simp at h <;> omega))
          (conv => arg 5; whnf)
          refine wp_must ⟨by omega, by omega⟩ ?_
          (conv => arg 5; whnf)
          refine wp_g0 (fun _ => ?_) (fun h => by first | (simp only [beq_iff_eq] at h; omega) | (simp at h <;> omega))
          (conv => arg 5; whnf)
          refine wp_must ⟨by omega, by omega, hs.some h1⟩ ?_
          (conv => arg 5; whnf)
          refine readE (l := l) (k := 0) (x := x2) rfl (.tail _ (.tail _ (.tail _ (.tail _ (.tail _ (.tail _ (.tail _ (.head _)))))))) h1 (hs.some h1) hx0 rfl ?_
          (conv => arg 5; whnf)
          refine wp_prim (.bool false) (fun w => neq_sameR _ _ x2 w) ?_
          (conv => arg 5; whnf)
          refine wp_g1 (fun _ => ?_) (fun h => absurd h (by simp))
          (conv => arg 5; whnf)
          refine meetc (f := 8) (v := .bool true) rfl (by kernel_rfl) (fun β ρ w' hM' => live w') ?_
          (conv => arg 5; whnf)
          exact wp_back fun β ρ w' hM' => ⟨rfl, hM'.below⟩
        · subst hzl
          (conv => arg 5; whnf)
          refine meet1F (f := 19) (n := l.length) (v := fun a1 c1 => pv room sh a1 l.length c1) (xs := cellsE l) rfl (by kernel_rfl) (fun β ρ w' hM' => told room sh z l.length c_z l w' h_z rfl (hM'.at_ (.tail _ (.tail _ (.tail _ (.head _))))) hl) (fun t2 c_t2 h_t2 f_t2 => ?_)
          (conv => arg 5; whnf)
          refine meetc (f := 18) (v := .bool true) rfl (by kernel_rfl) (fun β ρ w' hM' => same room sh t2 l.length c_t2 l a c w' h_t2 rfl (hM'.at_ (.head _)) hs (hM'.at_ (.tail _ (.tail _ (.tail _ (.tail _ (.tail _ (.tail _ (.tail _ (.tail _ (.head _))))))))))) ?_
          (conv => arg 5; whnf)
          refine wp_g1 (fun _ => ?_) (fun h => absurd h (by simp))
          (conv => arg 5; whnf)
          refine meetc (f := 8) (v := .bool true) rfl (by kernel_rfl) (fun β ρ w' hM' => live w') ?_
          (conv => arg 5; whnf)
          exact wp_back fun β ρ w' hM' => ⟨rfl, hM'.below⟩
      · subst hyl
        (conv => arg 5; whnf)
        refine meet1F (f := 19) (n := l.length) (v := fun a1 c1 => pv room sh a1 l.length c1) (xs := cellsE l) rfl (by kernel_rfl) (fun β ρ w' hM' => told room sh y l.length c_y l w' h_y rfl (hM'.at_ (.tail _ (.tail _ (.tail _ (.tail _ (.tail _ (.head _))))))) hl) (fun t1 c_t1 h_t1 f_t1 => ?_)
        (conv => arg 5; whnf)
        refine meetc (f := 18) (v := .bool true) rfl (by kernel_rfl) (fun β ρ w' hM' => same room sh t1 l.length c_t1 l a c w' h_t1 rfl (hM'.at_ (.head _)) hs (hM'.at_ (.tail _ (.tail _ (.tail _ (.tail _ (.tail _ (.tail _ (.tail _ (.tail _ (.head _))))))))))) ?_
        rcases hC2 with ⟨rfl, hx0, hzl, h1⟩ | ⟨q2, rfl, hzl⟩
        · (conv => arg 5; whnf)
          refine wp_g0 (fun _ => ?_) (fun h => by first | (simp only [beq_iff_eq] at h; omega) | (simp at h <;> omega))
          (conv => arg 5; whnf)
          refine wp_must ⟨by omega, by omega⟩ ?_
          (conv => arg 5; whnf)
          refine wp_g0 (fun _ => ?_) (fun h => by first | (simp only [beq_iff_eq] at h; omega) | (simp at h <;> omega))
          (conv => arg 5; whnf)
          refine wp_must ⟨by omega, by omega, hs.some h1⟩ ?_
          (conv => arg 5; whnf)
          refine readE (l := l) (k := 0) (x := x2) rfl (.tail _ (.tail _ (.tail _ (.tail _ (.tail _ (.tail _ (.tail _ (.tail _ (.head _))))))))) h1 (hs.some h1) hx0 rfl ?_
          (conv => arg 5; whnf)
          refine wp_prim (.bool false) (fun w => neq_sameR _ _ x2 w) ?_
          (conv => arg 5; whnf)
          refine wp_g1 (fun _ => ?_) (fun h => absurd h (by simp))
          (conv => arg 5; whnf)
          refine meetc (f := 8) (v := .bool true) rfl (by kernel_rfl) (fun β ρ w' hM' => live w') ?_
          (conv => arg 5; whnf)
          exact wp_back fun β ρ w' hM' => ⟨rfl, hM'.below⟩
        · subst hzl
          (conv => arg 5; whnf)
          refine meet1F (f := 19) (n := l.length) (v := fun a1 c1 => pv room sh a1 l.length c1) (xs := cellsE l) rfl (by kernel_rfl) (fun β ρ w' hM' => told room sh z l.length c_z l w' h_z rfl (hM'.at_ (.tail _ (.tail _ (.tail _ (.tail _ (.head _)))))) hl) (fun t2 c_t2 h_t2 f_t2 => ?_)
          (conv => arg 5; whnf)
          refine meetc (f := 18) (v := .bool true) rfl (by kernel_rfl) (fun β ρ w' hM' => same room sh t2 l.length c_t2 l a c w' h_t2 rfl (hM'.at_ (.head _)) hs (hM'.at_ (.tail _ (.tail _ (.tail _ (.tail _ (.tail _ (.tail _ (.tail _ (.tail _ (.tail _ (.head _)))))))))))) ?_
          (conv => arg 5; whnf)
          refine wp_g1 (fun _ => ?_) (fun h => absurd h (by simp))
          (conv => arg 5; whnf)
          refine meetc (f := 8) (v := .bool true) rfl (by kernel_rfl) (fun β ρ w' hM' => live w') ?_
          (conv => arg 5; whnf)
          exact wp_back fun β ρ w' hM' => ⟨rfl, hM'.below⟩
    (conv => arg 5; whnf)
    refine meet1F (f := 10) (n := ys.length) (v := fun a1 c1 => .tuple #[pv room sh a1 ys.length c1, .int .i64 er]) (xs := cellsE ys) rfl (by kernel_rfl) (fun β ρ w' hM' => sendT room sh o1 l.length c_o1 l w' h_o1 rfl hro x (by omega) ys.length ys er rfl hys her (hM'.at_ (.head _))) (fun y c_y h_y f_y => ?_)
    (conv => arg 5; whnf)
    refine meet1F (f := 9) (n := l.length) (v := fun a1 c1 => pv room sh a1 l.length c1) (xs := cellsE l) rfl (by kernel_rfl) (fun β ρ w' hM' => own room sh a l.length c l w' hs rfl (hM'.at_ (.tail _ (.tail _ (.head _)))) hl) (fun o2 c_o2 h_o2 f_o2 => ?_)
    (conv => arg 5; whnf)
    refine meet1F (f := 12) (n := zs.length) (v := fun a1 c1 => .tuple #[pv room sh a1 zs.length c1, x2.val, .int .i64 e2]) (xs := cellsE zs) rfl (by kernel_rfl) (fun β ρ w' hM' => takeT room sh o2 l.length c_o2 l w' h_o2 rfl hro hl zs.length zs x2 e2 rfl hzs hx2 he2 (hM'.at_ (.head _))) (fun z c_z h_z f_z => ?_)
    (conv => arg 5; whnf)
    refine meet1F (f := 9) (n := l.length) (v := fun a1 c1 => pv room sh a1 l.length c1) (xs := cellsE l) rfl (by kernel_rfl) (fun β ρ w' hM' => own room sh a l.length c l w' hs rfl (hM'.at_ (.tail _ (.tail _ (.tail _ (.tail _ (.head _)))))) hl) (fun o3 c_o3 h_o3 f_o3 => ?_)
    (conv => arg 5; whnf)
    refine meet1F (f := 14) (n := l.length) (v := fun a1 c1 => .tuple #[pv room true a1 l.length c1, .int .i64 e3]) (xs := cellsE l) rfl (by kernel_rfl) (fun β ρ w' hM' => closeT room sh o3 l.length c_o3 l w' h_o3 rfl hro hl e3 he3 (hM'.at_ (.head _))) (fun k c_k h_k f_k => ?_)
    (conv => arg 5; whnf)
    refine meet1F (f := 10) (n := l.length) (v := fun a1 c1 => .tuple #[pv room true a1 l.length c1, .int .i64 8]) (xs := cellsE l) rfl (by kernel_rfl) (fun β ρ w' hM' => sendT room true k l.length c_k l w' h_k rfl hro x (by omega) l.length l 8 rfl rfl rfl (hM'.at_ (.head _))) (fun j c_j h_j f_j => ?_)
    rcases hC1 with ⟨rfl, hyx⟩ | ⟨q1, rfl, hyl⟩
    · have hlen : ys.length = l.length + 1 := by rw [hyx]; simp
      have hget : ys[l.length]? = some x := by rw [hyx]; simp
      (conv => arg 5; whnf)
      refine wp_must ⟨by omega, by omega⟩ ?_
      (conv => arg 5; whnf)
      refine wp_g0 (fun _ => ?_) (fun h => by first | (simp only [beq_iff_eq] at h; omega) | (simp at h <;> omega))
      (conv => arg 5; whnf)
      refine wp_must ⟨by omega, by omega, h_y.some (show l.length < ys.length by omega)⟩ ?_
      (conv => arg 5; whnf)
      refine readE (l := ys) (k := l.length) (x := x) rfl (.tail _ (.tail _ (.tail _ (.tail _ (.tail _ (.head _)))))) (show l.length < ys.length by omega) (h_y.some (show l.length < ys.length by omega)) hget rfl ?_
      (conv => arg 5; whnf)
      refine wp_prim (.bool false) (fun w => neq_sameR _ _ x w) ?_
      rcases hC2 with ⟨rfl, hx0, hzl, h1⟩ | ⟨q2, rfl, hzl⟩
      · (conv => arg 5; whnf)
        refine wp_g0 (fun _ => ?_) (fun h => by first | (simp only [beq_iff_eq] at h; omega) | (simp at h <;> omega))
        (conv => arg 5; whnf)
        refine wp_must ⟨by omega, by omega⟩ ?_
        (conv => arg 5; whnf)
        refine wp_g0 (fun _ => ?_) (fun h => by first | (simp only [beq_iff_eq] at h; omega) | (simp at h <;> omega))
        (conv => arg 5; whnf)
        refine wp_must ⟨by omega, by omega, hs.some h1⟩ ?_
        (conv => arg 5; whnf)
        refine readE (l := l) (k := 0) (x := x2) rfl (.tail _ (.tail _ (.tail _ (.tail _ (.tail _ (.tail _ (.tail _ (.head _)))))))) h1 (hs.some h1) hx0 rfl ?_
        (conv => arg 5; whnf)
        refine wp_prim (.bool false) (fun w => neq_sameR _ _ x2 w) ?_
        (conv => arg 5; whnf)
        refine wp_g1 (fun _ => ?_) (fun h => absurd h (by simp))
        (conv => arg 5; whnf)
        refine meetc (f := 8) (v := .bool true) rfl (by kernel_rfl) (fun β ρ w' hM' => live w') ?_
        (conv => arg 5; whnf)
        exact wp_back fun β ρ w' hM' => ⟨rfl, hM'.below⟩
      · subst hzl
        (conv => arg 5; whnf)
        refine meet1F (f := 19) (n := l.length) (v := fun a1 c1 => pv room sh a1 l.length c1) (xs := cellsE l) rfl (by kernel_rfl) (fun β ρ w' hM' => told room sh z l.length c_z l w' h_z rfl (hM'.at_ (.tail _ (.tail _ (.tail _ (.head _))))) hl) (fun t2 c_t2 h_t2 f_t2 => ?_)
        (conv => arg 5; whnf)
        refine meetc (f := 18) (v := .bool true) rfl (by kernel_rfl) (fun β ρ w' hM' => same room sh t2 l.length c_t2 l a c w' h_t2 rfl (hM'.at_ (.head _)) hs (hM'.at_ (.tail _ (.tail _ (.tail _ (.tail _ (.tail _ (.tail _ (.tail _ (.tail _ (.head _))))))))))) ?_
        (conv => arg 5; whnf)
        refine wp_g1 (fun _ => ?_) (fun h => absurd h (by simp))
        (conv => arg 5; whnf)
        refine meetc (f := 8) (v := .bool true) rfl (by kernel_rfl) (fun β ρ w' hM' => live w') ?_
        (conv => arg 5; whnf)
        exact wp_back fun β ρ w' hM' => ⟨rfl, hM'.below⟩
    · subst hyl
      (conv => arg 5; whnf)
      refine meet1F (f := 19) (n := l.length) (v := fun a1 c1 => pv room sh a1 l.length c1) (xs := cellsE l) rfl (by kernel_rfl) (fun β ρ w' hM' => told room sh y l.length c_y l w' h_y rfl (hM'.at_ (.tail _ (.tail _ (.tail _ (.tail _ (.tail _ (.head _))))))) hl) (fun t1 c_t1 h_t1 f_t1 => ?_)
      (conv => arg 5; whnf)
      refine meetc (f := 18) (v := .bool true) rfl (by kernel_rfl) (fun β ρ w' hM' => same room sh t1 l.length c_t1 l a c w' h_t1 rfl (hM'.at_ (.head _)) hs (hM'.at_ (.tail _ (.tail _ (.tail _ (.tail _ (.tail _ (.tail _ (.tail _ (.tail _ (.head _))))))))))) ?_
      rcases hC2 with ⟨rfl, hx0, hzl, h1⟩ | ⟨q2, rfl, hzl⟩
      · (conv => arg 5; whnf)
        refine wp_g0 (fun _ => ?_) (fun h => by first | (simp only [beq_iff_eq] at h; omega) | (simp at h <;> omega))
        (conv => arg 5; whnf)
        refine wp_must ⟨by omega, by omega⟩ ?_
        (conv => arg 5; whnf)
        refine wp_g0 (fun _ => ?_) (fun h => by first | (simp only [beq_iff_eq] at h; omega) | (simp at h <;> omega))
        (conv => arg 5; whnf)
        refine wp_must ⟨by omega, by omega, hs.some h1⟩ ?_
        (conv => arg 5; whnf)
        refine readE (l := l) (k := 0) (x := x2) rfl (.tail _ (.tail _ (.tail _ (.tail _ (.tail _ (.tail _ (.tail _ (.tail _ (.head _))))))))) h1 (hs.some h1) hx0 rfl ?_
        (conv => arg 5; whnf)
        refine wp_prim (.bool false) (fun w => neq_sameR _ _ x2 w) ?_
        (conv => arg 5; whnf)
        refine wp_g1 (fun _ => ?_) (fun h => absurd h (by simp))
        (conv => arg 5; whnf)
        refine meetc (f := 8) (v := .bool true) rfl (by kernel_rfl) (fun β ρ w' hM' => live w') ?_
        (conv => arg 5; whnf)
        exact wp_back fun β ρ w' hM' => ⟨rfl, hM'.below⟩
      · subst hzl
        (conv => arg 5; whnf)
        refine meet1F (f := 19) (n := l.length) (v := fun a1 c1 => pv room sh a1 l.length c1) (xs := cellsE l) rfl (by kernel_rfl) (fun β ρ w' hM' => told room sh z l.length c_z l w' h_z rfl (hM'.at_ (.tail _ (.tail _ (.tail _ (.tail _ (.head _)))))) hl) (fun t2 c_t2 h_t2 f_t2 => ?_)
        (conv => arg 5; whnf)
        refine meetc (f := 18) (v := .bool true) rfl (by kernel_rfl) (fun β ρ w' hM' => same room sh t2 l.length c_t2 l a c w' h_t2 rfl (hM'.at_ (.head _)) hs (hM'.at_ (.tail _ (.tail _ (.tail _ (.tail _ (.tail _ (.tail _ (.tail _ (.tail _ (.tail _ (.head _)))))))))))) ?_
        (conv => arg 5; whnf)
        refine wp_g1 (fun _ => ?_) (fun h => absurd h (by simp))
        (conv => arg 5; whnf)
        refine meetc (f := 8) (v := .bool true) rfl (by kernel_rfl) (fun β ρ w' hM' => live w') ?_
        (conv => arg 5; whnf)
        exact wp_back fun β ρ w' hM' => ⟨rfl, hM'.below⟩
end Go.Proofs.Ytoaohkllkooibaa.pipeCounts
