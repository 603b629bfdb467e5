/- The walk of hopperlaw08.PipeTells. -/
import Derived.Test.YtoaohkllkooibaaPipeOpen
namespace Go.Proofs.Ytoaohkllkooibaa.pipeTells
open Go.RowKit Sx pipe
set_option linter.unusedVariables false
set_option linter.unusedSimpArgs false
set_option maxHeartbeats 4000000 in
set_option maxRecDepth 100000 in
theorem walk (room : Int) (sh : Bool) (a : Option Addr) (n c : Nat) (l : List It) (x : It) (nr : Int) (w : World) (h : IsIts w a n c l ∧ Fits room) (hx : True) (hnr : Fits nr) : Calls Try.prog 3 (List.toArray [pv room sh a n c, x.val, .int .i64 nr]) w fun e w' =>  e = .returned (.bool true) ∧ Below w.heap.size w w' := by
  obtain ⟨⟨hs, hn, hrow⟩, hro⟩ := h
  refine calls_of_exec env_ok Try.func3 rfl [(3, (.one 0 (.one 2 (.fork 1 (.fork 3 (.one 4 (.one 5 (.one 6 (.one 7 (.one 8 (.one 9 (.done))))))) 7 (.one 3 (.one 4 (.one 5 (.one 6 (.one 8 (.one 9 (.done)))))))) 7 (.one 1 (.one 3 (.one 4 (.one 5 (.one 6 (.one 8 (.one 9 (.done)))))))))), [])), (11, (line [0, 2, 1, 3, 4, 5, 6, 7, 8, 9, 10, 12, 11, 13, 14, 15, 16, 17, 18, 19, 20, 21, 22, 23, 24, 25, 26, 28, 27, 29, 30, 31, 32, 33, 34, 35, 36, 37, 39, 38, 40, 41, 42, 43, 44, 45, 46, 47, 48, 49, 50], []))] (schedQ_ok _ _ (by kernel_rfl)) [rowF (pt a n) (cellsE l)] (at1 hrow) ?_
  (conv => arg 5; whnf)
  refine meetc (f := 7) (v := .bool (decide ((n : Int) ≤ 40))) rfl (by kernel_rfl) (fun β ρ w' hM' => small room sh a n c w') ?_
  (conv => arg 5; whnf)
  refine wp_br (fun g1 => ?_) (fun g1 => ?_)
  · (conv => arg 5; whnf)
    refine meetc (f := 8) (v := .bool true) rfl (by kernel_rfl) (fun β ρ w' hM' => live w') ?_
    (conv => arg 5; whnf)
    exact wp_back fun β ρ w' hM' => ⟨rfl, hM'.below⟩
  · have hl40 : n ≤ 40 := by simp at g1; omega
    have hl : l.length ≤ 100000 := by omega
    obtain ⟨ys, hys⟩ : ∃ ys, sendV room sh l x = ys := ⟨_, rfl⟩
    obtain ⟨er, her⟩ : ∃ er, sendR room sh l = er := ⟨_, rfl⟩
    obtain ⟨zs, hzs⟩ : ∃ zs, l.tail = zs := ⟨_, rfl⟩
    obtain ⟨x2, hx2⟩ : ∃ x2, recvX l = x2 := ⟨_, rfl⟩
    obtain ⟨e2, he2⟩ : ∃ e2, recvE l sh = e2 := ⟨_, rfl⟩
    obtain ⟨e3, he3⟩ : ∃ e3, (if sh = true then (8 : Int) else 0) = e3 := ⟨_, rfl⟩
    obtain ⟨r0, e0, hN⟩ : ∃ r0 e0, newV nr = (r0, e0) := ⟨_, _, rfl⟩
    have hyl : ys.length ≤ 100000 := by rw [← hys]; unfold sendV; split; omega; split; (rw [List.length_append]; simp only [List.length_singleton]; omega); omega
    have hzl : zs.length ≤ 100000 := by rw [← hzs, List.length_tail]; omega
    (conv => arg 5; whnf)
    refine wp_both ?_ ?_
    rotate_left
    · (conv => arg 5; whnf)
      refine meet1F (f := 9) (n := n) (v := fun a1 c1 => pv room sh a1 n c1) (xs := cellsE l) rfl (by kernel_rfl) (fun β ρ w' hM' => own room sh a n c l w' hs hn (hM'.at_ (.head _)) hl) (fun o1 c_o1 h_o1 f_o1 => ?_)
      (conv => arg 5; whnf)
      refine meet1F (f := 10) (n := ys.length) (v := fun a1 c1 => .tuple #[pv room sh a1 ys.length c1, .int .i64 er]) (xs := cellsE ys) rfl (by kernel_rfl) (fun β ρ w' hM' => sendT room sh o1 n c_o1 l w' h_o1 hn hro x (by omega) ys.length ys er rfl hys her (hM'.at_ (.head _))) (fun y c_y h_y f_y => ?_)
      (conv => arg 5; whnf)
      refine meetL (f := 11) (n := ys.length) (v := fun a1 c1 => .tuple #[pv room sh a1 ys.length c1, .int .i64 er]) (xs := cellsE ys) (rowF (pt a n) (cellsE l)) (.tail _ (.tail _ (.head _))) rfl (by kernel_rfl) (fun β ρ w' hM' => rsendT room sh a n c l w' hs hn hro x (by omega) ys.length ys er rfl hys her (hM'.at_ (.tail _ (.tail _ (.head _))))) (fun y2 c_y2 h_y2 => ?_)
      (conv => arg 5; whnf)
      refine meet1F (f := 9) (n := n) (v := fun a1 c1 => pv room sh a1 n c1) (xs := cellsE l) rfl (by kernel_rfl) (fun β ρ w' hM' => own room sh a n c l w' hs hn (hM'.at_ (.tail _ (.tail _ (.tail _ (.head _))))) hl) (fun o2 c_o2 h_o2 f_o2 => ?_)
      (conv => arg 5; whnf)
      refine meet1F (f := 12) (n := zs.length) (v := fun a1 c1 => .tuple #[pv room sh a1 zs.length c1, x2.val, .int .i64 e2]) (xs := cellsE zs) rfl (by kernel_rfl) (fun β ρ w' hM' => takeT room sh o2 n c_o2 l w' h_o2 hn hro hl zs.length zs x2 e2 rfl hzs hx2 he2 (hM'.at_ (.head _))) (fun z c_z h_z f_z => ?_)
      (conv => arg 5; whnf)
      refine meetL (f := 13) (n := zs.length) (v := fun a1 c1 => .tuple #[pv room sh a1 zs.length c1, x2.val, .int .i64 e2]) (xs := cellsE zs) (rowF (pt a n) (cellsE l)) (.tail _ (.tail _ (.tail _ (.tail _ (.tail _ (.head _)))))) rfl (by kernel_rfl) (fun β ρ w' hM' => rtakeT room sh a n c l w' hs hn hro hl zs.length zs x2 e2 rfl hzs hx2 he2 (hM'.at_ (.tail _ (.tail _ (.tail _ (.tail _ (.tail _ (.head _)))))))) (fun z2 c_z2 h_z2 => ?_)
      (conv => arg 5; whnf)
      refine meet1F (f := 9) (n := n) (v := fun a1 c1 => pv room sh a1 n c1) (xs := cellsE l) rfl (by kernel_rfl) (fun β ρ w' hM' => own room sh a n c l w' hs hn (hM'.at_ (.tail _ (.tail _ (.tail _ (.tail _ (.tail _ (.tail _ (.head _)))))))) hl) (fun o3 c_o3 h_o3 f_o3 => ?_)
      (conv => arg 5; whnf)
      refine meet1F (f := 14) (n := n) (v := fun a1 c1 => .tuple #[pv room true a1 n c1, .int .i64 e3]) (xs := cellsE l) rfl (by kernel_rfl) (fun β ρ w' hM' => closeT room sh o3 n c_o3 l w' h_o3 hn hro hl e3 he3 (hM'.at_ (.head _))) (fun k c_k h_k f_k => ?_)
      (conv => arg 5; whnf)
      refine meetc (f := 15) (v := .tuple #[pv room true a n c, .int .i64 e3]) rfl (by kernel_rfl) (fun β ρ w' hM' => (by have := rclose room sh a n c w'; rw [he3] at this; exact this)) ?_
      (conv => arg 5; whnf)
      refine meetc (f := 16) (v := .tuple #[pv r0 false none 0 0, .int .i64 e0]) rfl (by kernel_rfl) (fun β ρ w' hM' => newT nr r0 e0 w' hN) ?_
      (conv => arg 5; whnf)
      refine meetc (f := 17) (v := .tuple #[pv r0 false none 0 0, .int .i64 e0]) rfl (by kernel_rfl) (fun β ρ w' hM' => rnewT nr r0 e0 w' hN) ?_
      (conv => arg 5; whnf)
      refine meet1F (f := 19) (n := ys.length) (v := fun a1 c1 => pv room sh a1 ys.length c1) (xs := cellsE ys) rfl (by kernel_rfl) (fun β ρ w' hM' => told room sh y ys.length c_y ys w' h_y rfl (hM'.at_ (.tail _ (.tail _ (.tail _ (.tail _ (.tail _ (.tail _ (.head _)))))))) hyl) (fun t1 c_t1 h_t1 f_t1 => ?_)
      (conv => arg 5; whnf)
      refine meetc (f := 18) (v := .bool true) rfl (by kernel_rfl) (fun β ρ w' hM' => same room sh t1 ys.length c_t1 ys y2 c_y2 w' h_t1 rfl (hM'.at_ (.head _)) h_y2 (hM'.at_ (.tail _ (.tail _ (.tail _ (.tail _ (.tail _ (.tail _ (.head _))))))))) ?_
      (conv => arg 5; whnf)
      refine wp_g1 (fun _ => ?_) (fun h => absurd h (by simp))
      (conv => arg 5; whnf)
      refine meet1F (f := 19) (n := zs.length) (v := fun a1 c1 => pv room sh a1 zs.length c1) (xs := cellsE zs) rfl (by kernel_rfl) (fun β ρ w' hM' => told room sh z zs.length c_z zs w' h_z rfl (hM'.at_ (.tail _ (.tail _ (.tail _ (.tail _ (.head _)))))) hzl) (fun t2 c_t2 h_t2 f_t2 => ?_)
      (conv => arg 5; whnf)
      refine meetc (f := 18) (v := .bool true) rfl (by kernel_rfl) (fun β ρ w' hM' => same room sh t2 zs.length c_t2 zs z2 c_z2 w' h_t2 rfl (hM'.at_ (.head _)) h_z2 (hM'.at_ (.tail _ (.tail _ (.tail _ (.tail _ (.head _))))))) ?_
      (conv => arg 5; whnf)
      refine wp_prim (.bool true) (fun w => eq_sameR _ _ x2 w) ?_
      (conv => arg 5; whnf)
      refine wp_g1 (fun _ => ?_) (fun h => absurd h (by simp))
      (conv => arg 5; whnf)
      refine meet1F (f := 19) (n := n) (v := fun a1 c1 => pv room true a1 n c1) (xs := cellsE l) rfl (by kernel_rfl) (fun β ρ w' hM' => told room true k n c_k l w' h_k hn (hM'.at_ (.tail _ (.tail _ (.head _)))) hl) (fun t3 c_t3 h_t3 f_t3 => ?_)
      (conv => arg 5; whnf)
      refine meetc (f := 18) (v := .bool true) rfl (by kernel_rfl) (fun β ρ w' hM' => same room true t3 n c_t3 l a c w' h_t3 hn (hM'.at_ (.head _)) hs (hM'.at_ (.tail _ (.tail _ (.tail _ (.tail _ (.tail _ (.tail _ (.tail _ (.tail _ (.tail _ (.tail _ (.tail _ (.head _)))))))))))))) ?_
      (conv => arg 5; whnf)
      refine wp_g1 (fun _ => ?_) (fun h => absurd h (by simp))
      (conv => arg 5; whnf)
      refine meet1F (f := 19) (n := 0) (v := fun a1 c1 => pv r0 false a1 0 c1) (xs := cellsE []) rfl (by kernel_rfl) (fun β ρ w' hM' => told r0 false none 0 0 [] w' sl_nil rfl at_nil (by decide)) (fun t4 c_t4 h_t4 f_t4 => ?_)
      (conv => arg 5; whnf)
      refine meetc (f := 18) (v := .bool true) rfl (by kernel_rfl) (fun β ρ w' hM' => same r0 false t4 0 c_t4 [] none 0 w' h_t4 rfl (hM'.at_ (.head _)) sl_nil at_nil) ?_
      (conv => arg 5; whnf)
      refine wp_g1 (fun _ => ?_) (fun h => absurd h (by simp))
      (conv => arg 5; whnf)
      refine meetc (f := 8) (v := .bool true) rfl (by kernel_rfl) (fun β ρ w' hM' => live w') ?_
      (conv => arg 5; whnf)
      exact wp_back fun β ρ w' hM' => ⟨rfl, hM'.below⟩
    (conv => arg 5; whnf)
    refine meet1F (f := 9) (n := n) (v := fun a1 c1 => pv room sh a1 n c1) (xs := cellsE l) rfl (by kernel_rfl) (fun β ρ w' hM' => own room sh a n c l w' hs hn (hM'.at_ (.head _)) hl) (fun o1 c_o1 h_o1 f_o1 => ?_)
    (conv => arg 5; whnf)
    refine wp_both ?_ ?_
    rotate_left
    · (conv => arg 5; whnf)
      refine meet1F (f := 10) (n := ys.length) (v := fun a1 c1 => .tuple #[pv room sh a1 ys.length c1, .int .i64 er]) (xs := cellsE ys) rfl (by kernel_rfl) (fun β ρ w' hM' => sendT room sh o1 n c_o1 l w' h_o1 hn hro x (by omega) ys.length ys er rfl hys her (hM'.at_ (.head _))) (fun y c_y h_y f_y => ?_)
      (conv => arg 5; whnf)
      refine meetL (f := 11) (n := ys.length) (v := fun a1 c1 => .tuple #[pv room sh a1 ys.length c1, .int .i64 er]) (xs := cellsE ys) (rowF (pt a n) (cellsE l)) (.tail _ (.tail _ (.head _))) rfl (by kernel_rfl) (fun β ρ w' hM' => rsendT room sh a n c l w' hs hn hro x (by omega) ys.length ys er rfl hys her (hM'.at_ (.tail _ (.tail _ (.head _))))) (fun y2 c_y2 h_y2 => ?_)
      (conv => arg 5; whnf)
      refine meet1F (f := 9) (n := n) (v := fun a1 c1 => pv room sh a1 n c1) (xs := cellsE l) rfl (by kernel_rfl) (fun β ρ w' hM' => own room sh a n c l w' hs hn (hM'.at_ (.tail _ (.tail _ (.tail _ (.head _))))) hl) (fun o2 c_o2 h_o2 f_o2 => ?_)
      (conv => arg 5; whnf)
      refine meet1F (f := 12) (n := zs.length) (v := fun a1 c1 => .tuple #[pv room sh a1 zs.length c1, x2.val, .int .i64 e2]) (xs := cellsE zs) rfl (by kernel_rfl) (fun β ρ w' hM' => takeT room sh o2 n c_o2 l w' h_o2 hn hro hl zs.length zs x2 e2 rfl hzs hx2 he2 (hM'.at_ (.head _))) (fun z c_z h_z f_z => ?_)
      (conv => arg 5; whnf)
      refine meetL (f := 13) (n := zs.length) (v := fun a1 c1 => .tuple #[pv room sh a1 zs.length c1, x2.val, .int .i64 e2]) (xs := cellsE zs) (rowF (pt a n) (cellsE l)) (.tail _ (.tail _ (.tail _ (.tail _ (.tail _ (.head _)))))) rfl (by kernel_rfl) (fun β ρ w' hM' => rtakeT room sh a n c l w' hs hn hro hl zs.length zs x2 e2 rfl hzs hx2 he2 (hM'.at_ (.tail _ (.tail _ (.tail _ (.tail _ (.tail _ (.head _)))))))) (fun z2 c_z2 h_z2 => ?_)
      (conv => arg 5; whnf)
      refine meet1F (f := 9) (n := n) (v := fun a1 c1 => pv room sh a1 n c1) (xs := cellsE l) rfl (by kernel_rfl) (fun β ρ w' hM' => own room sh a n c l w' hs hn (hM'.at_ (.tail _ (.tail _ (.tail _ (.tail _ (.tail _ (.tail _ (.head _)))))))) hl) (fun o3 c_o3 h_o3 f_o3 => ?_)
      (conv => arg 5; whnf)
      refine meet1F (f := 14) (n := n) (v := fun a1 c1 => .tuple #[pv room true a1 n c1, .int .i64 e3]) (xs := cellsE l) rfl (by kernel_rfl) (fun β ρ w' hM' => closeT room sh o3 n c_o3 l w' h_o3 hn hro hl e3 he3 (hM'.at_ (.head _))) (fun k c_k h_k f_k => ?_)
      (conv => arg 5; whnf)
      refine meetc (f := 15) (v := .tuple #[pv room true a n c, .int .i64 e3]) rfl (by kernel_rfl) (fun β ρ w' hM' => (by have := rclose room sh a n c w'; rw [he3] at this; exact this)) ?_
      (conv => arg 5; whnf)
      refine meetc (f := 16) (v := .tuple #[pv r0 false none 0 0, .int .i64 e0]) rfl (by kernel_rfl) (fun β ρ w' hM' => newT nr r0 e0 w' hN) ?_
      (conv => arg 5; whnf)
      refine meetc (f := 17) (v := .tuple #[pv r0 false none 0 0, .int .i64 e0]) rfl (by kernel_rfl) (fun β ρ w' hM' => rnewT nr r0 e0 w' hN) ?_
      (conv => arg 5; whnf)
      refine meet1F (f := 19) (n := ys.length) (v := fun a1 c1 => pv room sh a1 ys.length c1) (xs := cellsE ys) rfl (by kernel_rfl) (fun β ρ w' hM' => told room sh y ys.length c_y ys w' h_y rfl (hM'.at_ (.tail _ (.tail _ (.tail _ (.tail _ (.tail _ (.tail _ (.head _)))))))) hyl) (fun t1 c_t1 h_t1 f_t1 => ?_)
      (conv => arg 5; whnf)
      refine meetc (f := 18) (v := .bool true) rfl (by kernel_rfl) (fun β ρ w' hM' => same room sh t1 ys.length c_t1 ys y2 c_y2 w' h_t1 rfl (hM'.at_ (.head _)) h_y2 (hM'.at_ (.tail _ (.tail _ (.tail _ (.tail _ (.tail _ (.tail _ (.head _))))))))) ?_
      (conv => arg 5; whnf)
      refine wp_g1 (fun _ => ?_) (fun h => absurd h (by simp))
      (conv => arg 5; whnf)
      refine meet1F (f := 19) (n := zs.length) (v := fun a1 c1 => pv room sh a1 zs.length c1) (xs := cellsE zs) rfl (by kernel_rfl) (fun β ρ w' hM' => told room sh z zs.length c_z zs w' h_z rfl (hM'.at_ (.tail _ (.tail _ (.tail _ (.tail _ (.head _)))))) hzl) (fun t2 c_t2 h_t2 f_t2 => ?_)
      (conv => arg 5; whnf)
      refine meetc (f := 18) (v := .bool true) rfl (by kernel_rfl) (fun β ρ w' hM' => same room sh t2 zs.length c_t2 zs z2 c_z2 w' h_t2 rfl (hM'.at_ (.head _)) h_z2 (hM'.at_ (.tail _ (.tail _ (.tail _ (.tail _ (.head _))))))) ?_
      (conv => arg 5; whnf)
      refine wp_prim (.bool true) (fun w => eq_sameR _ _ x2 w) ?_
      (conv => arg 5; whnf)
      refine wp_g1 (fun _ => ?_) (fun h => absurd h (by simp))
      (conv => arg 5; whnf)
      refine meet1F (f := 19) (n := n) (v := fun a1 c1 => pv room true a1 n c1) (xs := cellsE l) rfl (by kernel_rfl) (fun β ρ w' hM' => told room true k n c_k l w' h_k hn (hM'.at_ (.tail _ (.tail _ (.head _)))) hl) (fun t3 c_t3 h_t3 f_t3 => ?_)
      (conv => arg 5; whnf)
      refine meetc (f := 18) (v := .bool true) rfl (by kernel_rfl) (fun β ρ w' hM' => same room true t3 n c_t3 l a c w' h_t3 hn (hM'.at_ (.head _)) hs (hM'.at_ (.tail _ (.tail _ (.tail _ (.tail _ (.tail _ (.tail _ (.tail _ (.tail _ (.tail _ (.tail _ (.tail _ (.head _)))))))))))))) ?_
      (conv => arg 5; whnf)
      refine wp_g1 (fun _ => ?_) (fun h => absurd h (by simp))
      (conv => arg 5; whnf)
      refine meet1F (f := 19) (n := 0) (v := fun a1 c1 => pv r0 false a1 0 c1) (xs := cellsE []) rfl (by kernel_rfl) (fun β ρ w' hM' => told r0 false none 0 0 [] w' sl_nil rfl at_nil (by decide)) (fun t4 c_t4 h_t4 f_t4 => ?_)
      (conv => arg 5; whnf)
      refine meetc (f := 18) (v := .bool true) rfl (by kernel_rfl) (fun β ρ w' hM' => same r0 false t4 0 c_t4 [] none 0 w' h_t4 rfl (hM'.at_ (.head _)) sl_nil at_nil) ?_
      (conv => arg 5; whnf)
      refine wp_g1 (fun _ => ?_) (fun h => absurd h (by simp))
      (conv => arg 5; whnf)
      refine meetc (f := 8) (v := .bool true) rfl (by kernel_rfl) (fun β ρ w' hM' => live w') ?_
      (conv => arg 5; whnf)
      exact wp_back fun β ρ w' hM' => ⟨rfl, hM'.below⟩
    (conv => arg 5; whnf)
    refine meet1F (f := 10) (n := ys.length) (v := fun a1 c1 => .tuple #[pv room sh a1 ys.length c1, .int .i64 er]) (xs := cellsE ys) rfl (by kernel_rfl) (fun β ρ w' hM' => sendT room sh o1 n c_o1 l w' h_o1 hn hro x (by omega) ys.length ys er rfl hys her (hM'.at_ (.head _))) (fun y c_y h_y f_y => ?_)
    (conv => arg 5; whnf)
    refine meetL (f := 11) (n := ys.length) (v := fun a1 c1 => .tuple #[pv room sh a1 ys.length c1, .int .i64 er]) (xs := cellsE ys) (rowF (pt a n) (cellsE l)) (.tail _ (.tail _ (.head _))) rfl (by kernel_rfl) (fun β ρ w' hM' => rsendT room sh a n c l w' hs hn hro x (by omega) ys.length ys er rfl hys her (hM'.at_ (.tail _ (.tail _ (.head _))))) (fun y2 c_y2 h_y2 => ?_)
    (conv => arg 5; whnf)
    refine meet1F (f := 9) (n := n) (v := fun a1 c1 => pv room sh a1 n c1) (xs := cellsE l) rfl (by kernel_rfl) (fun β ρ w' hM' => own room sh a n c l w' hs hn (hM'.at_ (.tail _ (.tail _ (.tail _ (.head _))))) hl) (fun o2 c_o2 h_o2 f_o2 => ?_)
    (conv => arg 5; whnf)
    refine meet1F (f := 12) (n := zs.length) (v := fun a1 c1 => .tuple #[pv room sh a1 zs.length c1, x2.val, .int .i64 e2]) (xs := cellsE zs) rfl (by kernel_rfl) (fun β ρ w' hM' => takeT room sh o2 n c_o2 l w' h_o2 hn hro hl zs.length zs x2 e2 rfl hzs hx2 he2 (hM'.at_ (.head _))) (fun z c_z h_z f_z => ?_)
    (conv => arg 5; whnf)
    refine meetL (f := 13) (n := zs.length) (v := fun a1 c1 => .tuple #[pv room sh a1 zs.length c1, x2.val, .int .i64 e2]) (xs := cellsE zs) (rowF (pt a n) (cellsE l)) (.tail _ (.tail _ (.tail _ (.tail _ (.tail _ (.head _)))))) rfl (by kernel_rfl) (fun β ρ w' hM' => rtakeT room sh a n c l w' hs hn hro hl zs.length zs x2 e2 rfl hzs hx2 he2 (hM'.at_ (.tail _ (.tail _ (.tail _ (.tail _ (.tail _ (.head _)))))))) (fun z2 c_z2 h_z2 => ?_)
    (conv => arg 5; whnf)
    refine meet1F (f := 9) (n := n) (v := fun a1 c1 => pv room sh a1 n c1) (xs := cellsE l) rfl (by kernel_rfl) (fun β ρ w' hM' => own room sh a n c l w' hs hn (hM'.at_ (.tail _ (.tail _ (.tail _ (.tail _ (.tail _ (.tail _ (.head _)))))))) hl) (fun o3 c_o3 h_o3 f_o3 => ?_)
    (conv => arg 5; whnf)
    refine meet1F (f := 14) (n := n) (v := fun a1 c1 => .tuple #[pv room true a1 n c1, .int .i64 e3]) (xs := cellsE l) rfl (by kernel_rfl) (fun β ρ w' hM' => closeT room sh o3 n c_o3 l w' h_o3 hn hro hl e3 he3 (hM'.at_ (.head _))) (fun k c_k h_k f_k => ?_)
    (conv => arg 5; whnf)
    refine meetc (f := 15) (v := .tuple #[pv room true a n c, .int .i64 e3]) rfl (by kernel_rfl) (fun β ρ w' hM' => (by have := rclose room sh a n c w'; rw [he3] at this; exact this)) ?_
    (conv => arg 5; whnf)
    refine meetc (f := 16) (v := .tuple #[pv r0 false none 0 0, .int .i64 e0]) rfl (by kernel_rfl) (fun β ρ w' hM' => newT nr r0 e0 w' hN) ?_
    (conv => arg 5; whnf)
    refine meetc (f := 17) (v := .tuple #[pv r0 false none 0 0, .int .i64 e0]) rfl (by kernel_rfl) (fun β ρ w' hM' => rnewT nr r0 e0 w' hN) ?_
    (conv => arg 5; whnf)
    refine meet1F (f := 19) (n := ys.length) (v := fun a1 c1 => pv room sh a1 ys.length c1) (xs := cellsE ys) rfl (by kernel_rfl) (fun β ρ w' hM' => told room sh y ys.length c_y ys w' h_y rfl (hM'.at_ (.tail _ (.tail _ (.tail _ (.tail _ (.tail _ (.tail _ (.head _)))))))) hyl) (fun t1 c_t1 h_t1 f_t1 => ?_)
    (conv => arg 5; whnf)
    refine meetc (f := 18) (v := .bool true) rfl (by kernel_rfl) (fun β ρ w' hM' => same room sh t1 ys.length c_t1 ys y2 c_y2 w' h_t1 rfl (hM'.at_ (.head _)) h_y2 (hM'.at_ (.tail _ (.tail _ (.tail _ (.tail _ (.tail _ (.tail _ (.head _))))))))) ?_
    (conv => arg 5; whnf)
    refine wp_g1 (fun _ => ?_) (fun h => absurd h (by simp))
    (conv => arg 5; whnf)
    refine meet1F (f := 19) (n := zs.length) (v := fun a1 c1 => pv room sh a1 zs.length c1) (xs := cellsE zs) rfl (by kernel_rfl) (fun β ρ w' hM' => told room sh z zs.length c_z zs w' h_z rfl (hM'.at_ (.tail _ (.tail _ (.tail _ (.tail _ (.head _)))))) hzl) (fun t2 c_t2 h_t2 f_t2 => ?_)
    (conv => arg 5; whnf)
    refine meetc (f := 18) (v := .bool true) rfl (by kernel_rfl) (fun β ρ w' hM' => same room sh t2 zs.length c_t2 zs z2 c_z2 w' h_t2 rfl (hM'.at_ (.head _)) h_z2 (hM'.at_ (.tail _ (.tail _ (.tail _ (.tail _ (.head _))))))) ?_
    (conv => arg 5; whnf)
    refine wp_prim (.bool true) (fun w => eq_sameR _ _ x2 w) ?_
    (conv => arg 5; whnf)
    refine wp_g1 (fun _ => ?_) (fun h => absurd h (by simp))
    (conv => arg 5; whnf)
    refine meet1F (f := 19) (n := n) (v := fun a1 c1 => pv room true a1 n c1) (xs := cellsE l) rfl (by kernel_rfl) (fun β ρ w' hM' => told room true k n c_k l w' h_k hn (hM'.at_ (.tail _ (.tail _ (.head _)))) hl) (fun t3 c_t3 h_t3 f_t3 => ?_)
    (conv => arg 5; whnf)
    refine meetc (f := 18) (v := .bool true) rfl (by kernel_rfl) (fun β ρ w' hM' => same room true t3 n c_t3 l a c w' h_t3 hn (hM'.at_ (.head _)) hs (hM'.at_ (.tail _ (.tail _ (.tail _ (.tail _ (.tail _ (.tail _ (.tail _ (.tail _ (.tail _ (.tail _ (.tail _ (.head _)))))))))))))) ?_
    (conv => arg 5; whnf)
    refine wp_g1 (fun _ => ?_) (fun h => absurd h (by simp))
    (conv => arg 5; whnf)
    refine meet1F (f := 19) (n := 0) (v := fun a1 c1 => pv r0 false a1 0 c1) (xs := cellsE []) rfl (by kernel_rfl) (fun β ρ w' hM' => told r0 false none 0 0 [] w' sl_nil rfl at_nil (by decide)) (fun t4 c_t4 h_t4 f_t4 => ?_)
    (conv => arg 5; whnf)
    refine meetc (f := 18) (v := .bool true) rfl (by kernel_rfl) (fun β ρ w' hM' => same r0 false t4 0 c_t4 [] none 0 w' h_t4 rfl (hM'.at_ (.head _)) sl_nil at_nil) ?_
    (conv => arg 5; whnf)
    refine wp_g1 (fun _ => ?_) (fun h => absurd h (by simp))
    (conv => arg 5; whnf)
    refine meetc (f := 8) (v := .bool true) rfl (by kernel_rfl) (fun β ρ w' hM' => live w') ?_
    (conv => arg 5; whnf)
    exact wp_back fun β ρ w' hM' => ⟨rfl, hM'.below⟩
end Go.Proofs.Ytoaohkllkooibaa.pipeTells
