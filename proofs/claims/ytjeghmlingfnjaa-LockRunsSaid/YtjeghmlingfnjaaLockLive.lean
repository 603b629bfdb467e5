/- hopperlaw09's own answers. -/
import Derived.Test.YtjeghmlingfnjaaLockB
import Derived.Test.YtjeghmlingfnjaaShape
namespace Go.Proofs.Ytjeghmlingfnjaa.lock
open Go.RowKit Sx
set_option linter.unusedVariables false
set_option linter.unusedSimpArgs false
set_option maxHeartbeats 4000000 in
set_option maxRecDepth 100000 in
theorem live (w : World) : Calls Try.prog 29 (List.toArray []) w fun e w' => e = .returned (.bool true) ∧ Below w.heap.size w w' := by
  refine calls_of_exec env_ok Try.func29 rfl [] (by kernel_rfl) [] (by simp) ?_
  (conv => arg 5; whnf)
  refine meet1 (f := 34) (n := 3) (v := fun a1 c1 => .tuple #[.slice a1 3 c1, .int .i64 0]) (xs := ic [0, 0, 0]) rfl (by kernel_rfl) (fun β ρ w' hM' => new_ 3 w') (fun t c_t h_t => ?_)
  (conv => arg 5; whnf)
  refine meet1 (f := 30) (n := 3) (v := fun a1 c1 => .tuple #[.slice a1 3 c1, .int .i64 0]) (xs := ic [0, 7, 0]) rfl (by kernel_rfl) (fun β ρ w' hM' => take [0, 0, 0] t 3 c_t w' 1 7 h_t rfl (hM'.at_ (.head _)) (by decide)) (fun a c_a h_a => ?_)
  (conv => arg 5; whnf)
  refine meet1 (f := 30) (n := 3) (v := fun a1 c1 => .tuple #[.slice a1 3 c1, .int .i64 6]) (xs := ic [0, 7, 0]) rfl (by kernel_rfl) (fun β ρ w' hM' => take [0, 7, 0] a 3 c_a w' 1 8 h_a rfl (hM'.at_ (.head _)) (by decide)) (fun x c_x h_x => ?_)
  (conv => arg 5; whnf)
  refine meet1 (f := 32) (n := 3) (v := fun a1 c1 => .tuple #[.slice a1 3 c1, .int .i64 7]) (xs := ic [0, 7, 0]) rfl (by kernel_rfl) (fun β ρ w' hM' => give [0, 7, 0] a 3 c_a w' 1 8 h_a rfl (hM'.at_ (.tail _ (.head _))) (by decide)) (fun x2 c_x2 h_x2 => ?_)
  (conv => arg 5; whnf)
  refine meet1 (f := 32) (n := 3) (v := fun a1 c1 => .tuple #[.slice a1 3 c1, .int .i64 0]) (xs := ic [0, 0, 0]) rfl (by kernel_rfl) (fun β ρ w' hM' => give [0, 7, 0] a 3 c_a w' 1 7 h_a rfl (hM'.at_ (.tail _ (.tail _ (.head _)))) (by decide)) (fun b c_b h_b => ?_)
  (conv => arg 5; whnf)
  refine meet1 (f := 30) (n := 3) (v := fun a1 c1 => .tuple #[.slice a1 3 c1, .int .i64 1]) (xs := ic [0, 0, 0]) rfl (by kernel_rfl) (fun β ρ w' hM' => take [0, 0, 0] t 3 c_t w' 3 7 h_t rfl (hM'.at_ (.tail _ (.tail _ (.tail _ (.tail _ (.head _)))))) (by decide)) (fun x3 c_x3 h_x3 => ?_)
  (conv => arg 5; whnf)
  refine meet1 (f := 34) (n := 0) (v := fun a1 c1 => .tuple #[.slice a1 0 c1, .int .i64 1]) (xs := ic []) rfl (by kernel_rfl) (fun β ρ w' hM' => new_ 9 w') (fun x4 c_x4 h_x4 => ?_)
  (conv => arg 5; whnf)
  refine meetc (f := 36) (v := .bool true) rfl (by kernel_rfl) (fun β ρ w' hM' => same [0, 0, 0] b t 3 c_b c_t w' h_b h_t rfl (hM'.at_ (.tail _ (.tail _ (.head _)))) (hM'.at_ (.tail _ (.tail _ (.tail _ (.tail _ (.tail _ (.tail _ (.head _))))))))) ?_
  (conv => arg 5; whnf)
  refine meetc (f := 37) (v := .bool false) rfl (by kernel_rfl) (fun β ρ w' hM' => free [0, 7, 0] a 3 c_a w' 1 h_a rfl (hM'.at_ (.tail _ (.tail _ (.tail _ (.tail _ (.tail _ (.head _)))))))) ?_
  (conv => arg 5; whnf)
  refine meetc (f := 37) (v := .bool true) rfl (by kernel_rfl) (fun β ρ w' hM' => free [0, 7, 0] a 3 c_a w' 0 h_a rfl (hM'.at_ (.tail _ (.tail _ (.tail _ (.tail _ (.tail _ (.head _)))))))) ?_
  (conv => arg 5; whnf)
  refine meetc (f := 37) (v := .bool false) rfl (by kernel_rfl) (fun β ρ w' hM' => free [0, 7, 0] a 3 c_a w' 3 h_a rfl (hM'.at_ (.tail _ (.tail _ (.tail _ (.tail _ (.tail _ (.head _)))))))) ?_
  (conv => arg 5; whnf)
  refine meet1 (f := 39) (n := 1) (v := fun a1 c1 => .slice a1 1 c1) (xs := ic [1]) rfl (by kernel_rfl) (fun β ρ w' hM' => held [0, 7, 0] a 3 c_a w' 7 h_a rfl (hM'.at_ (.tail _ (.tail _ (.tail _ (.tail _ (.tail _ (.head _))))))) (by decide)) (fun hd c_hd h_hd => ?_)
  (conv => arg 5; whnf)
  refine wp_share fun u c_u h_u f_u => ?_
  (conv => arg 5; whnf)
  refine meetc (f := 36) (v := .bool true) rfl (by kernel_rfl) (fun β ρ w' hM' => same [1] hd u 1 c_hd c_u w' h_hd h_u rfl (hM'.at_ (.tail _ (.head _))) (hM'.at_ (.head _))) ?_
  (conv => arg 5; whnf)
  refine meetc (f := 41) (v := .int .i64 0) rfl (by kernel_rfl) (fun β ρ w' hM' => first [0, 7, 0] a 3 c_a w' 7 h_a rfl (hM'.at_ (.tail _ (.tail _ (.tail _ (.tail _ (.tail _ (.tail _ (.tail _ (.head _)))))))))) ?_
  (conv => arg 5; whnf)
  refine wp_share fun q c_q h_q f_q => ?_
  (conv => arg 5; whnf)
  refine meetc (f := 41) (v := .int .i64 2) rfl (by kernel_rfl) (fun β ρ w' hM' => first [7, 7] q 2 c_q w' 7 h_q rfl (hM'.at_ (.head _))) ?_
  (conv => arg 5; whnf)
  exact wp_back fun β ρ w' hM' => ⟨rfl, hM'.below⟩
end Go.Proofs.Ytjeghmlingfnjaa.lock
