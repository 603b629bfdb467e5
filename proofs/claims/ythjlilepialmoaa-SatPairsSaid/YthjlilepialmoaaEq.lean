/- Two arrays of two ints, held against each other. -/
import Derived.Test.YthjlilepialmoaaChecked
import Derived.WalkKit
import Derived.ProofKit
import Derived.WalkLawsBesides
import Derived.ChangeKeysEq
namespace Go.Proofs.Ythjlilepialmoaa.sat
open Go.RowKit

theorem eq_two (a b c d : Int) (w : World) :
    (Op.equalIn 10000 29 (.agg #[.int .i64 a, .int .i64 b]) (.agg #[.int .i64 c, .int .i64 d])).run Try.prog w = .ok (a == c && b == d) w := by
  obtain ⟨i, hi⟩ := Option.isSome_iff_exists.1 (show (Try.prog.info? 3).isSome = true from by kernel_rfl)
  have hc : Try.prog.cellsOf 3 = 1 := by kernel_rfl
  rw [run_equalIn_array w 9999 _ _ Try.underlying29 hi]
  have hr : List.range 2 = [0, 1] := rfl
  rw [hr, hc]
  have h1 : ∀ w, (Op.equalIn 9999 3 (.int .i64 a) (.int .i64 c)).run Try.prog w = .ok (a == c) w := fun w => run_equalIn_int w 9998 _ _ _ a c Try.underlying3
  have h2 : ∀ w, (Op.equalIn 9999 3 (.int .i64 b) (.int .i64 d)).run Try.prog w = .ok (b == d) w := fun w => run_equalIn_int w 9998 _ _ _ b d Try.underlying3
  cases ha : (a == c) <;> cases hb : (b == d) <;> simp [Op.eqItems, part, go_sem, h1, h2, ha, hb]
end Go.Proofs.Ythjlilepialmoaa.sat
