/- The walks of hopperlaw07's laws. -/
import Derived.Test.YtbgagcjcpegpaaaPot
namespace Go.Proofs.Ytbgagcjcpegpaaa.pot
open Go.RowKit Sx flt
set_option linter.unusedVariables false
set_option linter.unusedSimpArgs false

theorem eql_own (x y : Operand) (a b c d : Int) (w : World) : (do eqGuard .eql 24 x y (two a b) (two c d); pure (Next.value (← binOp .eql 24 (two a b) (two c d))) : Sem Next).run Try.prog w = .ok (.value (.bool (decide (a = c ∧ b = d)))) w := by
  by_cases h1 : a = c <;> by_cases h2 : b = d <;> simp [two, eqGuard, go_sem, h1, h2]
theorem eql_ref (x y : Operand) (a b c d : Int) (w : World) : (do eqGuard .eql 23 x y (two a b) (two c d); pure (Next.value (← binOp .eql 23 (two a b) (two c d))) : Sem Next).run Try.prog w = .ok (.value (.bool (decide (a = c ∧ b = d)))) w := by
  by_cases h1 : a = c <;> by_cases h2 : b = d <;> simp [two, eqGuard, go_sem, h1, h2]
theorem neq_own (x y : Operand) (a b c d : Int) (w : World) : (do eqGuard .neq 24 x y (two a b) (two c d); pure (Next.value (← binOp .neq 24 (two a b) (two c d))) : Sem Next).run Try.prog w = .ok (.value (.bool (decide (¬ (a = c ∧ b = d))))) w := by
  by_cases h1 : a = c <;> by_cases h2 : b = d <;> simp [two, eqGuard, go_sem, h1, h2]

set_option maxRecDepth 100000 in
set_option maxHeartbeats 2000000 in
theorem live (w : World) : Calls Try.prog 19 (List.toArray []) w fun e w' => e = .returned (.bool true) ∧ Below w.heap.size w w' := by
  refine calls_of_exec env_ok Try.func19 rfl [] (by kernel_rfl) [] (by simp) ?_
  refine meetc (v := .tuple #[two 0 10, .int .i64 0]) rfl (by kernel_rfl) (fun β ρ w' hM => new_ 10 w') ?_
  refine meetc (v := .tuple #[two 7 10, .int .i64 0]) rfl (by kernel_rfl) (fun β ρ w' hM => adjust 0 10 7 w' (by unfold Fits; omega)) ?_
  refine meetc (v := .tuple #[two 7 10, .int .i64 6]) rfl (by kernel_rfl) (fun β ρ w' hM => adjust 7 10 4 w' (by unfold Fits; omega)) ?_
  refine meetc (v := .tuple #[two 0 10, .int .i64 0]) rfl (by kernel_rfl) (fun β ρ w' hM => adjust 7 10 (-7) w' (by unfold Fits; omega)) ?_
  refine meetc (v := .tuple #[two 7 10, .int .i64 1]) rfl (by kernel_rfl) (fun β ρ w' hM => adjust 7 10 (-8) w' (by unfold Fits; omega)) ?_
  refine meetc (v := .tuple #[two 0 0, .int .i64 1]) rfl (by kernel_rfl) (fun β ρ w' hM => new_ 0 w') ?_
  refine wp_prim (.bool true) (fun w => eql_own _ _ 7 10 7 10 w) ?_
  refine wp_prim (.bool true) (fun w => eql_own _ _ 0 10 0 10 w) ?_
  refine meetc (v := .int .i64 3) rfl (by kernel_rfl) (fun β ρ w' hM => free 7 10 w') ?_
  refine meetc (v := .int .i64 2) rfl (by kernel_rfl) (fun β ρ w' hM => over 7 10 5 w' (by unfold Fits; omega)) ?_
  refine meetc (v := .int .i64 0) rfl (by kernel_rfl) (fun β ρ w' hM => over 7 10 7 w' (by unfold Fits; omega)) ?_
  exact wp_back fun β ρ w' hM => ⟨rfl, hM.below⟩
end Go.Proofs.Ytbgagcjcpegpaaa.pot

