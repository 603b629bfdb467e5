/- The walk of hopperlaw07.PotTells. -/
import Derived.Test.YtbgagcjcpegpaaaPotLive
namespace Go.Proofs.Ytbgagcjcpegpaaa.potTells
open Go.RowKit Sx flt pot
set_option linter.unusedVariables false
set_option maxRecDepth 100000 in
set_option maxHeartbeats 2000000 in
theorem walk (a b d n : Int) (w : World) (hp : Fits a ∧ Fits b) (hd : Fits d) (hn : Fits n) : Calls Try.prog 3 (List.toArray [two a b, .int .i64 d, .int .i64 n]) w fun e w' => e = .returned (.bool true) ∧ Below w.heap.size w w' := by
  have H1 := fun w' => adjust a b d w' hd
  have H2 := fun w' => radjust a b d w' hd
  have H3 := fun w' => new_ n w'
  have H4 := fun w' => rnew n w'
  have H5 := fun w' => free a b w'
  have H6 := fun w' => rfree a b w'
  have H7 := fun w' => over a b n w' hn
  have H8 := fun w' => rover a b n w' hn
  generalize adjT a b d = x1 at H1 H2
  generalize adjE a b d = x2 at H1 H2
  generalize newM n = x3 at H3 H4
  generalize newE n = x4 at H3 H4
  generalize freeV a b = x5 at H5 H6
  generalize overV a b n = x6 at H7 H8
  refine calls_of_exec env_ok Try.func3 rfl [(5, (line [0, 1, 2, 3, 4, 5, 6, 7, 8, 9, 10, 11, 12, 13, 14, 15, 16, 17, 18, 19, 21, 20, 22, 23, 24, 25, 26, 27, 29, 30, 28, 31, 32, 33, 34, 35, 36, 37], []))] (by kernel_rfl) [] (by simp) ?_
  refine meetc rfl (by kernel_rfl) (fun β ρ w' hM => H1 w') ?_
  refine meetc rfl (by kernel_rfl) (fun β ρ w' hM => H2 w') ?_
  refine meetc rfl (by kernel_rfl) (fun β ρ w' hM => H3 w') ?_
  refine meetc rfl (by kernel_rfl) (fun β ρ w' hM => H4 w') ?_
  refine wp_prim (.bool true) (fun w => (eql_ref _ _ _ _ _ _ w).trans (by simp)) ?_
  refine wp_g1 (fun h => ?_) (fun h => by simp at h)
  refine wp_prim (.bool true) (fun w => (eql_ref _ _ _ _ _ _ w).trans (by simp)) ?_
  refine wp_g1 (fun h => ?_) (fun h => by simp at h)
  refine meetc rfl (by kernel_rfl) (fun β ρ w' hM => H5 w') ?_
  refine meetc rfl (by kernel_rfl) (fun β ρ w' hM => H6 w') ?_
  refine wp_g1 (fun h => ?_) (fun h => by simp at h)
  refine meetc rfl (by kernel_rfl) (fun β ρ w' hM => H7 w') ?_
  refine meetc rfl (by kernel_rfl) (fun β ρ w' hM => H8 w') ?_
  refine wp_g1 (fun h => ?_) (fun h => by simp at h)
  refine meetc rfl (by kernel_rfl) (fun β ρ w' hM => live w') ?_
  exact wp_back fun β ρ w' hM => ⟨rfl, hM.below⟩
end Go.Proofs.Ytbgagcjcpegpaaa.potTells
