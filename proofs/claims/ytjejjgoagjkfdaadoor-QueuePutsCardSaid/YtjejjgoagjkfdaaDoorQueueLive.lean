/- Layer 5 (queue): hopperlaw05's own answers. -/
import Derived.Test.YtjejjgoagjkfdaaDoorQueueX
import Derived.Test.YtjejjgoagjkfdaaDoorSxV
namespace Go.Proofs.YtjejjgoagjkfdaaDoor.queue
open Go.RowKit Sx txn
set_option linter.unusedVariables false
set_option linter.unusedSimpArgs false
theorem wp_both {P : Program} {W : World} {G : Option Nat} {Q : Ending → World → Prop} {ds : List Deferred} {x y : Tree} (h : x.wpD P W G Q ds) (h' : y.wpD P W G Q ds) : (Tree.both x y).wpD P W G Q ds := ⟨h, h'⟩
set_option maxHeartbeats 4000000 in
set_option maxRecDepth 100000 in
theorem live (w : World) (hM : Most w) : Calls Tryd.prog 17 (List.toArray []) w fun e w' => e = .returned (.bool true) ∧ Below w.heap.size w w' := by
  refine calls_of_exec env_ok.keeps Tryd.func17 rfl [(2, (line [0, 1, 2, 3, 4, 5, 6, 7], [])), (3, (line [0, 1, 2, 3, 4, 5, 6, 7], [])), (4, (line [0, 1, 2, 3, 4, 5, 6, 7], [])), (5, (line [0, 1, 2, 3, 4, 5, 6, 7], [])), (6, (line [0, 1, 2, 3, 4, 5, 6, 7], [])), (7, (.one 0 (.fork 1 (.fork 2 (.one 3 (.one 4 (.done))) 3 (.one 2 (.one 4 (.done)))) 3 (.one 1 (.one 2 (.one 4 (.done))))), [])), (14, (line [0, 1, 2, 3, 4, 5, 6, 7, 8, 9, 10, 11, 12, 13, 14, 15, 16, 17, 18, 19, 20, 21, 22, 23, 24, 25, 26, 27, 28, 29, 30, 31, 32, 33, 34, 35, 36, 37, 38, 39, 40, 41, 42, 43, 44, 45, 46, 47, 48, 49, 50, 51, 52, 53, 54, 55, 56, 57, 58, 59, 60, 61, 62, 63, 64, 65, 66, 67, 68, 69, 70, 71, 72, 73, 74, 75, 76, 77, 78, 79, 80, 81, 82, 83, 84, 85, 86, 87, 88, 89, 90, 91, 92, 93, 94], []))] (schedQ_ok _ _ (by kernel_rfl)) [] (by simp) ?_
  (conv => arg 5; whnf)
  refine meetc (f := 54) (v := .agg #[.int .i64 1, .int .i64 3, .int .i64 5, .int .i64 1000, .int .i64 1, .string ByteArray.empty]) rfl (by kernel_rfl) (fun β ρ w' hM' => tx_ 3 5 w') ?_
  (conv => arg 5; whnf)
  refine meetc (f := 54) (v := .agg #[.int .i64 1, .int .i64 4, .int .i64 5, .int .i64 1000, .int .i64 1, .string ByteArray.empty]) rfl (by kernel_rfl) (fun β ρ w' hM' => tx_ 4 5 w') ?_
  (conv => arg 5; whnf)
  refine meetc (f := 54) (v := .agg #[.int .i64 1, .int .i64 6, .int .i64 100, .int .i64 1000, .int .i64 1, .string ByteArray.empty]) rfl (by kernel_rfl) (fun β ρ w' hM' => tx_ 6 100 w') ?_
  (conv => arg 5; whnf)
  refine wp_share fun u c_u h_u f_u => ?_
  (conv => arg 5; whnf)
  refine meetc (f := 54) (v := .agg #[.int .i64 1, .int .i64 5, .int .i64 1, .int .i64 1000, .int .i64 1, .string ByteArray.empty]) rfl (by kernel_rfl) (fun β ρ w' hM' => tx_ 5 1 w') ?_
  (conv => arg 5; whnf)
  refine meetc (f := 28) (v := .tuple #[.int .i64 1, .int .i64 0]) rfl (by kernel_rfl) (fun β ρ w' hM' => placeL 1 3 4 [T 3 5, T 4 5, T 6 100] u 3 c_u (T 5 1) 10 1 0 w' (hM.later hM'.below) h_u rfl (by intro x hx; simp only [List.mem_cons, List.not_mem_nil, or_false] at hx; rcases hx with rfl | rfl | rfl <;> exact T_le _ _) (T_le _ _) (by kernel_rfl) (hM'.at_ (.head _))) ?_
  (conv => arg 5; whnf)
  refine meetc (f := 54) (v := .agg #[.int .i64 1, .int .i64 5, .int .i64 1, .int .i64 1000, .int .i64 1, .string ByteArray.empty]) rfl (by kernel_rfl) (fun β ρ w' hM' => tx_ 5 1 w') ?_
  (conv => arg 5; whnf)
  refine meetc (f := 28) (v := .tuple #[.int .i64 0, .int .i64 5]) rfl (by kernel_rfl) (fun β ρ w' hM' => placeL 1 3 3 [T 3 5, T 4 5, T 6 100] u 3 c_u (T 5 1) 10 0 5 w' (hM.later hM'.below) h_u rfl (by intro x hx; simp only [List.mem_cons, List.not_mem_nil, or_false] at hx; rcases hx with rfl | rfl | rfl <;> exact T_le _ _) (T_le _ _) (by kernel_rfl) (hM'.at_ (.head _))) ?_
  (conv => arg 5; whnf)
  refine meetc (f := 54) (v := .agg #[.int .i64 1, .int .i64 6, .int .i64 109, .int .i64 1000, .int .i64 1, .string ByteArray.empty]) rfl (by kernel_rfl) (fun β ρ w' hM' => tx_ 6 109 w') ?_
  (conv => arg 5; whnf)
  refine meetc (f := 28) (v := .tuple #[.int .i64 0, .int .i64 4]) rfl (by kernel_rfl) (fun β ρ w' hM' => placeL 1 3 4 [T 3 5, T 4 5, T 6 100] u 3 c_u (T 6 109) 10 0 4 w' (hM.later hM'.below) h_u rfl (by intro x hx; simp only [List.mem_cons, List.not_mem_nil, or_false] at hx; rcases hx with rfl | rfl | rfl <;> exact T_le _ _) (T_le _ _) (by kernel_rfl) (hM'.at_ (.head _))) ?_
  (conv => arg 5; whnf)
  refine meetc (f := 54) (v := .agg #[.int .i64 1, .int .i64 6, .int .i64 110, .int .i64 1000, .int .i64 1, .string ByteArray.empty]) rfl (by kernel_rfl) (fun β ρ w' hM' => tx_ 6 110 w') ?_
  (conv => arg 5; whnf)
  refine meetc (f := 28) (v := .tuple #[.int .i64 0, .int .i64 0]) rfl (by kernel_rfl) (fun β ρ w' hM' => placeL 1 3 3 [T 3 5, T 4 5, T 6 100] u 3 c_u (T 6 110) 10 0 0 w' (hM.later hM'.below) h_u rfl (by intro x hx; simp only [List.mem_cons, List.not_mem_nil, or_false] at hx; rcases hx with rfl | rfl | rfl <;> exact T_le _ _) (T_le _ _) (by kernel_rfl) (hM'.at_ (.head _))) ?_
  (conv => arg 5; whnf)
  refine meetc (f := 54) (v := .agg #[.int .i64 1, .int .i64 2, .int .i64 1, .int .i64 1000, .int .i64 1, .string ByteArray.empty]) rfl (by kernel_rfl) (fun β ρ w' hM' => tx_ 2 1 w') ?_
  (conv => arg 5; whnf)
  refine meetc (f := 28) (v := .tuple #[.int .i64 0, .int .i64 3]) rfl (by kernel_rfl) (fun β ρ w' hM' => placeL 1 3 4 [T 3 5, T 4 5, T 6 100] u 3 c_u (T 2 1) 10 0 3 w' (hM.later hM'.below) h_u rfl (by intro x hx; simp only [List.mem_cons, List.not_mem_nil, or_false] at hx; rcases hx with rfl | rfl | rfl <;> exact T_le _ _) (T_le _ _) (by kernel_rfl) (hM'.at_ (.head _))) ?_
  (conv => arg 5; whnf)
  refine wp_both ?_ ?_
  · (conv => arg 5; whnf)
    refine meetc (f := 54) (v := .agg #[.int .i64 1, .int .i64 5, .int .i64 1, .int .i64 1000, .int .i64 1, .string ByteArray.empty]) rfl (by kernel_rfl) (fun β ρ w' hM' => tx_ 5 1 w') ?_
    (conv => arg 5; whnf)
    refine wp_both ?_ ?_
    · (conv => arg 5; whnf)
      refine meet1' (f := 33) (n := 4) (v := fun a1 c1 => acc 1 3 a1 4 c1) (xs := cellsL [T 3 5, T 4 5, T 5 1, T 6 100]) rfl (by kernel_rfl) (fun β ρ w' hM' => putL 1 3 [T 3 5, T 4 5, T 6 100] [T 3 5, T 4 5, T 5 1, T 6 100] u 3 c_u (T 5 1) w' h_u rfl (by decide) (by kernel_rfl) (hM'.at_ (.head _))) (fun b c_b h_b => ?_)
      (conv => arg 5; whnf)
      refine meet2' (f := 30) (n := 2) (n2 := 2) (v := fun a1 c1 a2 c2 => .tuple #[acc 1 5 a1 2 c1, .slice a2 2 c2, .int .i64 0]) (xs := cellsL [T 5 1, T 6 100]) (ys := cellsL [T 3 5, T 4 5]) rfl (by kernel_rfl) (fun β ρ w' hM' => advL 1 3 5 [T 3 5, T 4 5, T 5 1, T 6 100] [T 5 1, T 6 100] [T 3 5, T 4 5] b 4 c_b w' h_b rfl (by decide) (by kernel_rfl) (by kernel_rfl) (by kernel_rfl) (hM'.at_ (.head _))) (fun c' c_c g c_g h_c h_g => ?_)
      (conv => arg 5; whnf)
      refine meet1' (f := 30) (n := 3) (v := fun a1 c1 => .tuple #[acc 1 3 a1 3 c1, .slice none 0 0, .int .i64 3]) (xs := cellsL [T 3 5, T 4 5, T 6 100]) rfl (by kernel_rfl) (fun β ρ w' hM' => advN 1 3 2 3 [T 3 5, T 4 5, T 6 100] u 3 c_u w' h_u rfl (by decide) (by kernel_rfl) (by decide) (hM'.at_ (.tail _ (.tail _ (.tail _ (.head _)))))) (fun x c_x h_x => ?_)
      (conv => arg 5; whnf)
      refine meet1' (f := 35) (n := 2) (v := fun a1 c1 => acc 1 3 a1 2 c1) (xs := cellsL [T 3 5, T 6 100]) rfl (by kernel_rfl) (fun β ρ w' hM' => dropL 1 3 [T 3 5, T 4 5, T 6 100] [T 3 5, T 6 100] u 3 c_u 4 w' h_u rfl (by decide) (by kernel_rfl) (hM'.at_ (.tail _ (.tail _ (.tail _ (.tail _ (.head _))))))) (fun d c_d h_d => ?_)
      (conv => arg 5; whnf)
      refine meetc (f := 18) (v := .tuple #[.agg #[.int .i64 1, .int .i64 6, .int .i64 100, .int .i64 1000, .int .i64 1, .string ByteArray.empty], .bool true]) rfl (by kernel_rfl) (fun β ρ w' hM' => find 1 3 [T 3 5, T 4 5, T 6 100] u 3 c_u 6 w' h_u rfl (hM'.at_ (.tail _ (.tail _ (.tail _ (.tail _ (.tail _ (.head _)))))))) ?_
      (conv => arg 5; whnf)
      refine wp_must ⟨by decide, by decide, h_b.some (show 2 < 4 by decide)⟩ ?_
      (conv => arg 5; whnf)
      refine readX (l := [T 3 5, T 4 5, T 5 1, T 6 100]) (x := T 5 1) rfl (.tail _ (.tail _ (.tail _ (.tail _ (.head _))))) (show 2 < 4 by decide) (h_b.some (show 2 < 4 by decide)) rfl (by simp) ?_
      (conv => arg 5; whnf)
      refine meetc (f := 54) (v := .agg #[.int .i64 1, .int .i64 5, .int .i64 1, .int .i64 1000, .int .i64 1, .string ByteArray.empty]) rfl (by kernel_rfl) (fun β ρ w' hM' => tx_ 5 1 w') ?_
      (conv => arg 5; whnf)
      refine wp_prim (.bool true) (fun w => eq_same' _ _ (T 5 1) w) ?_
      (conv => arg 5; whnf)
      refine wp_must ⟨by decide, by decide, h_g.some (show 1 < 2 by decide)⟩ ?_
      (conv => arg 5; whnf)
      refine readX (l := [T 3 5, T 4 5]) (x := T 4 5) rfl (.tail _ (.tail _ (.tail _ (.head _)))) (show 1 < 2 by decide) (h_g.some (show 1 < 2 by decide)) rfl (by simp) ?_
      (conv => arg 5; whnf)
      refine meetc (f := 54) (v := .agg #[.int .i64 1, .int .i64 4, .int .i64 5, .int .i64 1000, .int .i64 1, .string ByteArray.empty]) rfl (by kernel_rfl) (fun β ρ w' hM' => tx_ 4 5 w') ?_
      (conv => arg 5; whnf)
      refine wp_prim (.bool true) (fun w => eq_same' _ _ (T 4 5) w) ?_
      (conv => arg 5; whnf)
      refine meet1' (f := 23) (n := 2) (v := fun a1 c1 => .slice a1 2 c1) (xs := cellsL [T 3 5, T 4 5]) rfl (by kernel_rfl) (fun β ρ w' hM' => readyL 1 3 [T 3 5, T 4 5, T 6 100] [T 3 5, T 4 5] u 3 c_u w' h_u rfl (by decide) (by kernel_rfl) (hM'.at_ (.tail _ (.tail _ (.tail _ (.tail _ (.tail _ (.head _)))))))) (fun r1 c_r1 h_r1 => ?_)
      (conv => arg 5; whnf)
      refine meet1' (f := 23) (n := 4) (v := fun a1 c1 => .slice a1 4 c1) (xs := cellsL [T 3 5, T 4 5, T 5 1, T 6 100]) rfl (by kernel_rfl) (fun β ρ w' hM' => readyL 1 3 [T 3 5, T 4 5, T 5 1, T 6 100] [T 3 5, T 4 5, T 5 1, T 6 100] b 4 c_b w' h_b rfl (by decide) (by kernel_rfl) (hM'.at_ (.tail _ (.tail _ (.tail _ (.tail _ (.tail _ (.head _)))))))) (fun r2 c_r2 h_r2 => ?_)
      (conv => arg 5; whnf)
      refine meetc (f := 25) (v := .int .i64 3) rfl (by kernel_rfl) (fun β ρ w' hM' => slotsE 1 3 3 [T 3 5, T 4 5, T 6 100] u 3 c_u w' (hM.later hM'.below) h_u rfl (by intro x hx; simp only [List.mem_cons, List.not_mem_nil, or_false] at hx; rcases hx with rfl | rfl | rfl <;> exact T_le _ _) (by decide) (by kernel_rfl) (hM'.at_ (.tail _ (.tail _ (.tail _ (.tail _ (.tail _ (.tail _ (.tail _ (.head _)))))))))) ?_
      (conv => arg 5; whnf)
      refine meetc (f := 20) (v := .bool true) rfl (by kernel_rfl) (fun β ρ w' hM' => checkE 1 3 3 true [T 3 5, T 4 5, T 6 100] u 3 c_u w' (hM.later hM'.below) h_u rfl (by kernel_rfl) (hM'.at_ (.tail _ (.tail _ (.tail _ (.tail _ (.tail _ (.tail _ (.tail _ (.head _)))))))))) ?_
      (conv => arg 5; whnf)
      refine meetc (f := 20) (v := .bool false) rfl (by kernel_rfl) (fun β ρ w' hM' => checkE 1 3 2 false [T 3 5, T 4 5, T 6 100] u 3 c_u w' (hM.later hM'.below) h_u rfl (by kernel_rfl) (hM'.at_ (.tail _ (.tail _ (.tail _ (.tail _ (.tail _ (.tail _ (.tail _ (.head _)))))))))) ?_
      (conv => arg 5; whnf)
      exact wp_back fun β ρ w' hM' => ⟨rfl, hM'.below⟩
    · (conv => arg 5; whnf)
      refine meet1' (f := 33) (n := 4) (v := fun a1 c1 => acc 1 3 a1 4 c1) (xs := cellsL [T 3 5, T 4 5, T 5 1, T 6 100]) rfl (by kernel_rfl) (fun β ρ w' hM' => putL 1 3 [T 3 5, T 4 5, T 6 100] [T 3 5, T 4 5, T 5 1, T 6 100] u 3 c_u (T 5 1) w' h_u rfl (by decide) (by kernel_rfl) (hM'.at_ (.head _))) (fun b c_b h_b => ?_)
      (conv => arg 5; whnf)
      refine meet2' (f := 30) (n := 2) (n2 := 2) (v := fun a1 c1 a2 c2 => .tuple #[acc 1 5 a1 2 c1, .slice a2 2 c2, .int .i64 0]) (xs := cellsL [T 5 1, T 6 100]) (ys := cellsL [T 3 5, T 4 5]) rfl (by kernel_rfl) (fun β ρ w' hM' => advL 1 3 5 [T 3 5, T 4 5, T 5 1, T 6 100] [T 5 1, T 6 100] [T 3 5, T 4 5] b 4 c_b w' h_b rfl (by decide) (by kernel_rfl) (by kernel_rfl) (by kernel_rfl) (hM'.at_ (.head _))) (fun c' c_c g c_g h_c h_g => ?_)
      (conv => arg 5; whnf)
      refine meet1' (f := 30) (n := 3) (v := fun a1 c1 => .tuple #[acc 1 3 a1 3 c1, .slice none 0 0, .int .i64 3]) (xs := cellsL [T 3 5, T 4 5, T 6 100]) rfl (by kernel_rfl) (fun β ρ w' hM' => advN 1 3 2 3 [T 3 5, T 4 5, T 6 100] u 3 c_u w' h_u rfl (by decide) (by kernel_rfl) (by decide) (hM'.at_ (.tail _ (.tail _ (.tail _ (.head _)))))) (fun x c_x h_x => ?_)
      (conv => arg 5; whnf)
      refine meet1' (f := 35) (n := 2) (v := fun a1 c1 => acc 1 3 a1 2 c1) (xs := cellsL [T 3 5, T 6 100]) rfl (by kernel_rfl) (fun β ρ w' hM' => dropL 1 3 [T 3 5, T 4 5, T 6 100] [T 3 5, T 6 100] u 3 c_u 4 w' h_u rfl (by decide) (by kernel_rfl) (hM'.at_ (.tail _ (.tail _ (.tail _ (.tail _ (.head _))))))) (fun d c_d h_d => ?_)
      (conv => arg 5; whnf)
      refine meetc (f := 18) (v := .tuple #[.agg #[.int .i64 1, .int .i64 6, .int .i64 100, .int .i64 1000, .int .i64 1, .string ByteArray.empty], .bool true]) rfl (by kernel_rfl) (fun β ρ w' hM' => find 1 3 [T 3 5, T 4 5, T 6 100] u 3 c_u 6 w' h_u rfl (hM'.at_ (.tail _ (.tail _ (.tail _ (.tail _ (.tail _ (.head _)))))))) ?_
      (conv => arg 5; whnf)
      refine wp_must ⟨by decide, by decide, h_b.some (show 2 < 4 by decide)⟩ ?_
      (conv => arg 5; whnf)
      refine readX (l := [T 3 5, T 4 5, T 5 1, T 6 100]) (x := T 5 1) rfl (.tail _ (.tail _ (.tail _ (.tail _ (.head _))))) (show 2 < 4 by decide) (h_b.some (show 2 < 4 by decide)) rfl (by simp) ?_
      (conv => arg 5; whnf)
      refine meetc (f := 54) (v := .agg #[.int .i64 1, .int .i64 5, .int .i64 1, .int .i64 1000, .int .i64 1, .string ByteArray.empty]) rfl (by kernel_rfl) (fun β ρ w' hM' => tx_ 5 1 w') ?_
      (conv => arg 5; whnf)
      refine wp_prim (.bool true) (fun w => eq_same' _ _ (T 5 1) w) ?_
      (conv => arg 5; whnf)
      refine wp_must ⟨by decide, by decide, h_g.some (show 1 < 2 by decide)⟩ ?_
      (conv => arg 5; whnf)
      refine readX (l := [T 3 5, T 4 5]) (x := T 4 5) rfl (.tail _ (.tail _ (.tail _ (.head _)))) (show 1 < 2 by decide) (h_g.some (show 1 < 2 by decide)) rfl (by simp) ?_
      (conv => arg 5; whnf)
      refine meetc (f := 54) (v := .agg #[.int .i64 1, .int .i64 4, .int .i64 5, .int .i64 1000, .int .i64 1, .string ByteArray.empty]) rfl (by kernel_rfl) (fun β ρ w' hM' => tx_ 4 5 w') ?_
      (conv => arg 5; whnf)
      refine wp_prim (.bool true) (fun w => eq_same' _ _ (T 4 5) w) ?_
      (conv => arg 5; whnf)
      refine meet1' (f := 23) (n := 2) (v := fun a1 c1 => .slice a1 2 c1) (xs := cellsL [T 3 5, T 4 5]) rfl (by kernel_rfl) (fun β ρ w' hM' => readyL 1 3 [T 3 5, T 4 5, T 6 100] [T 3 5, T 4 5] u 3 c_u w' h_u rfl (by decide) (by kernel_rfl) (hM'.at_ (.tail _ (.tail _ (.tail _ (.tail _ (.tail _ (.head _)))))))) (fun r1 c_r1 h_r1 => ?_)
      (conv => arg 5; whnf)
      refine meet1' (f := 23) (n := 4) (v := fun a1 c1 => .slice a1 4 c1) (xs := cellsL [T 3 5, T 4 5, T 5 1, T 6 100]) rfl (by kernel_rfl) (fun β ρ w' hM' => readyL 1 3 [T 3 5, T 4 5, T 5 1, T 6 100] [T 3 5, T 4 5, T 5 1, T 6 100] b 4 c_b w' h_b rfl (by decide) (by kernel_rfl) (hM'.at_ (.tail _ (.tail _ (.tail _ (.tail _ (.tail _ (.head _)))))))) (fun r2 c_r2 h_r2 => ?_)
      (conv => arg 5; whnf)
      refine meetc (f := 25) (v := .int .i64 3) rfl (by kernel_rfl) (fun β ρ w' hM' => slotsE 1 3 3 [T 3 5, T 4 5, T 6 100] u 3 c_u w' (hM.later hM'.below) h_u rfl (by intro x hx; simp only [List.mem_cons, List.not_mem_nil, or_false] at hx; rcases hx with rfl | rfl | rfl <;> exact T_le _ _) (by decide) (by kernel_rfl) (hM'.at_ (.tail _ (.tail _ (.tail _ (.tail _ (.tail _ (.tail _ (.tail _ (.head _)))))))))) ?_
      (conv => arg 5; whnf)
      refine meetc (f := 20) (v := .bool true) rfl (by kernel_rfl) (fun β ρ w' hM' => checkE 1 3 3 true [T 3 5, T 4 5, T 6 100] u 3 c_u w' (hM.later hM'.below) h_u rfl (by kernel_rfl) (hM'.at_ (.tail _ (.tail _ (.tail _ (.tail _ (.tail _ (.tail _ (.tail _ (.head _)))))))))) ?_
      (conv => arg 5; whnf)
      refine meetc (f := 20) (v := .bool false) rfl (by kernel_rfl) (fun β ρ w' hM' => checkE 1 3 2 false [T 3 5, T 4 5, T 6 100] u 3 c_u w' (hM.later hM'.below) h_u rfl (by kernel_rfl) (hM'.at_ (.tail _ (.tail _ (.tail _ (.tail _ (.tail _ (.tail _ (.tail _ (.head _)))))))))) ?_
      (conv => arg 5; whnf)
      exact wp_back fun β ρ w' hM' => ⟨rfl, hM'.below⟩
  · (conv => arg 5; whnf)
    refine meetc (f := 54) (v := .agg #[.int .i64 1, .int .i64 5, .int .i64 1, .int .i64 1000, .int .i64 1, .string ByteArray.empty]) rfl (by kernel_rfl) (fun β ρ w' hM' => tx_ 5 1 w') ?_
    (conv => arg 5; whnf)
    refine meet1' (f := 33) (n := 4) (v := fun a1 c1 => acc 1 3 a1 4 c1) (xs := cellsL [T 3 5, T 4 5, T 5 1, T 6 100]) rfl (by kernel_rfl) (fun β ρ w' hM' => putL 1 3 [T 3 5, T 4 5, T 6 100] [T 3 5, T 4 5, T 5 1, T 6 100] u 3 c_u (T 5 1) w' h_u rfl (by decide) (by kernel_rfl) (hM'.at_ (.head _))) (fun b c_b h_b => ?_)
    (conv => arg 5; whnf)
    refine meet2' (f := 30) (n := 2) (n2 := 2) (v := fun a1 c1 a2 c2 => .tuple #[acc 1 5 a1 2 c1, .slice a2 2 c2, .int .i64 0]) (xs := cellsL [T 5 1, T 6 100]) (ys := cellsL [T 3 5, T 4 5]) rfl (by kernel_rfl) (fun β ρ w' hM' => advL 1 3 5 [T 3 5, T 4 5, T 5 1, T 6 100] [T 5 1, T 6 100] [T 3 5, T 4 5] b 4 c_b w' h_b rfl (by decide) (by kernel_rfl) (by kernel_rfl) (by kernel_rfl) (hM'.at_ (.head _))) (fun c' c_c g c_g h_c h_g => ?_)
    (conv => arg 5; whnf)
    refine meet1' (f := 30) (n := 3) (v := fun a1 c1 => .tuple #[acc 1 3 a1 3 c1, .slice none 0 0, .int .i64 3]) (xs := cellsL [T 3 5, T 4 5, T 6 100]) rfl (by kernel_rfl) (fun β ρ w' hM' => advN 1 3 2 3 [T 3 5, T 4 5, T 6 100] u 3 c_u w' h_u rfl (by decide) (by kernel_rfl) (by decide) (hM'.at_ (.tail _ (.tail _ (.tail _ (.head _)))))) (fun x c_x h_x => ?_)
    (conv => arg 5; whnf)
    refine meet1' (f := 35) (n := 2) (v := fun a1 c1 => acc 1 3 a1 2 c1) (xs := cellsL [T 3 5, T 6 100]) rfl (by kernel_rfl) (fun β ρ w' hM' => dropL 1 3 [T 3 5, T 4 5, T 6 100] [T 3 5, T 6 100] u 3 c_u 4 w' h_u rfl (by decide) (by kernel_rfl) (hM'.at_ (.tail _ (.tail _ (.tail _ (.tail _ (.head _))))))) (fun d c_d h_d => ?_)
    (conv => arg 5; whnf)
    refine meetc (f := 18) (v := .tuple #[.agg #[.int .i64 1, .int .i64 6, .int .i64 100, .int .i64 1000, .int .i64 1, .string ByteArray.empty], .bool true]) rfl (by kernel_rfl) (fun β ρ w' hM' => find 1 3 [T 3 5, T 4 5, T 6 100] u 3 c_u 6 w' h_u rfl (hM'.at_ (.tail _ (.tail _ (.tail _ (.tail _ (.tail _ (.head _)))))))) ?_
    (conv => arg 5; whnf)
    refine wp_must ⟨by decide, by decide, h_b.some (show 2 < 4 by decide)⟩ ?_
    (conv => arg 5; whnf)
    refine readX (l := [T 3 5, T 4 5, T 5 1, T 6 100]) (x := T 5 1) rfl (.tail _ (.tail _ (.tail _ (.tail _ (.head _))))) (show 2 < 4 by decide) (h_b.some (show 2 < 4 by decide)) rfl (by simp) ?_
    (conv => arg 5; whnf)
    refine meetc (f := 54) (v := .agg #[.int .i64 1, .int .i64 5, .int .i64 1, .int .i64 1000, .int .i64 1, .string ByteArray.empty]) rfl (by kernel_rfl) (fun β ρ w' hM' => tx_ 5 1 w') ?_
    (conv => arg 5; whnf)
    refine wp_prim (.bool true) (fun w => eq_same' _ _ (T 5 1) w) ?_
    (conv => arg 5; whnf)
    refine wp_must ⟨by decide, by decide, h_g.some (show 1 < 2 by decide)⟩ ?_
    (conv => arg 5; whnf)
    refine readX (l := [T 3 5, T 4 5]) (x := T 4 5) rfl (.tail _ (.tail _ (.tail _ (.head _)))) (show 1 < 2 by decide) (h_g.some (show 1 < 2 by decide)) rfl (by simp) ?_
    (conv => arg 5; whnf)
    refine meetc (f := 54) (v := .agg #[.int .i64 1, .int .i64 4, .int .i64 5, .int .i64 1000, .int .i64 1, .string ByteArray.empty]) rfl (by kernel_rfl) (fun β ρ w' hM' => tx_ 4 5 w') ?_
    (conv => arg 5; whnf)
    refine wp_prim (.bool true) (fun w => eq_same' _ _ (T 4 5) w) ?_
    (conv => arg 5; whnf)
    refine meet1' (f := 23) (n := 2) (v := fun a1 c1 => .slice a1 2 c1) (xs := cellsL [T 3 5, T 4 5]) rfl (by kernel_rfl) (fun β ρ w' hM' => readyL 1 3 [T 3 5, T 4 5, T 6 100] [T 3 5, T 4 5] u 3 c_u w' h_u rfl (by decide) (by kernel_rfl) (hM'.at_ (.tail _ (.tail _ (.tail _ (.tail _ (.tail _ (.head _)))))))) (fun r1 c_r1 h_r1 => ?_)
    (conv => arg 5; whnf)
    refine meet1' (f := 23) (n := 4) (v := fun a1 c1 => .slice a1 4 c1) (xs := cellsL [T 3 5, T 4 5, T 5 1, T 6 100]) rfl (by kernel_rfl) (fun β ρ w' hM' => readyL 1 3 [T 3 5, T 4 5, T 5 1, T 6 100] [T 3 5, T 4 5, T 5 1, T 6 100] b 4 c_b w' h_b rfl (by decide) (by kernel_rfl) (hM'.at_ (.tail _ (.tail _ (.tail _ (.tail _ (.tail _ (.head _)))))))) (fun r2 c_r2 h_r2 => ?_)
    (conv => arg 5; whnf)
    refine meetc (f := 25) (v := .int .i64 3) rfl (by kernel_rfl) (fun β ρ w' hM' => slotsE 1 3 3 [T 3 5, T 4 5, T 6 100] u 3 c_u w' (hM.later hM'.below) h_u rfl (by intro x hx; simp only [List.mem_cons, List.not_mem_nil, or_false] at hx; rcases hx with rfl | rfl | rfl <;> exact T_le _ _) (by decide) (by kernel_rfl) (hM'.at_ (.tail _ (.tail _ (.tail _ (.tail _ (.tail _ (.tail _ (.tail _ (.head _)))))))))) ?_
    (conv => arg 5; whnf)
    refine meetc (f := 20) (v := .bool true) rfl (by kernel_rfl) (fun β ρ w' hM' => checkE 1 3 3 true [T 3 5, T 4 5, T 6 100] u 3 c_u w' (hM.later hM'.below) h_u rfl (by kernel_rfl) (hM'.at_ (.tail _ (.tail _ (.tail _ (.tail _ (.tail _ (.tail _ (.tail _ (.head _)))))))))) ?_
    (conv => arg 5; whnf)
    refine meetc (f := 20) (v := .bool false) rfl (by kernel_rfl) (fun β ρ w' hM' => checkE 1 3 2 false [T 3 5, T 4 5, T 6 100] u 3 c_u w' (hM.later hM'.below) h_u rfl (by kernel_rfl) (hM'.at_ (.tail _ (.tail _ (.tail _ (.tail _ (.tail _ (.tail _ (.tail _ (.head _)))))))))) ?_
    (conv => arg 5; whnf)
    exact wp_back fun β ρ w' hM' => ⟨rfl, hM'.below⟩
end Go.Proofs.YtjejjgoagjkfdaaDoor.queue
