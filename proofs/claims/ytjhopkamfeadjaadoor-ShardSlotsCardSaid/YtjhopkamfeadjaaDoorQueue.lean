/- Layer 5 (queue), by contract: where a nonce stands. -/
import Derived.Test.YtjhopkamfeadjaaDoorRow
namespace Go.Proofs.YtjhopkamfeadjaaDoor.queue
open Go.RowKit Sx txn
set_option linter.unusedVariables false
set_option linter.unusedSimpArgs false

theorem within (n l m : Int) (w : World) : Calls Tryd.prog 52 (List.toArray [.int .i64 n, .int .i64 l, .int .i64 m]) w fun e w' => e = .returned (.bool (decide (l ≤ n) && decide (n ≤ m))) ∧ Below w.heap.size w w' := by
  refine calls_of_exec env_ok Tryd.func52 rfl [] (by kernel_rfl) [] (by simp) ?_
  refine wp_g1 (fun h1 => ?_) (fun h1 => ?_)
  · exact wp_back fun β ρ w' hm => ⟨by rw [h1]; rfl, hm.below⟩
  · exact wp_back fun β ρ w' hm => ⟨by rw [h1]; rfl, hm.below⟩

/-- The first place that is such; behind all, where there is none. -/
def srch (p : Nat → Int → Bool) : List Tx → Nat → Nat
  | [], k => k
  | x :: l, k => bif p k x.n then k else srch p l (k + 1)

theorem srch_drop (p : Nat → Int → Bool) : ∀ (l : List Tx) (k : Nat) (i : Nat) (x : Tx), l[i]? = some x → srch p (l.drop i) k = bif p k x.n then k else srch p (l.drop (i + 1)) (k + 1)
  | [], k, i, x, h => by simp at h
  | y :: l, k, 0, x, h => by simp at h; subst h; rfl
  | y :: l, k, i + 1, x, h => by simpa using srch_drop p l k i x (by simpa using h)

end Go.Proofs.YtjhopkamfeadjaaDoor.queue
