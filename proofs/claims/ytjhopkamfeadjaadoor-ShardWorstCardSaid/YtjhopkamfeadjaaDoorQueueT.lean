/- Layer 5 (queue): the document's Ready, Check and Place. -/
import Derived.Test.YtjhopkamfeadjaaDoorQueueS
namespace Go.Proofs.YtjhopkamfeadjaaDoor.queue
open Go.RowKit Sx txn
set_option linter.unusedVariables false
set_option linter.unusedSimpArgs false

/-- What has been seen of a row that rises so far: the least nonce that the next one may have. -/
def lo_ (b : Int) (l : List Tx) (k : Nat) : Int := match k with | 0 => b | k + 1 => match l[k]? with | some x => x.n + 1 | none => b
theorem lo_zero (b : Int) (l : List Tx) : lo_ b l 0 = b := rfl
theorem lo_succ (b : Int) {l : List Tx} {k : Nat} {x : Tx} (h : l[k]? = some x) : lo_ b l (k + 1) = x.n + 1 := by
  show (match l[k]? with | some x => x.n + 1 | none => b) = _
  rw [h]
theorem chk_out (s b per : Int) (l : List Tx) (h : ¬ (0 ≤ s ∧ s ≤ 255 ∧ 0 ≤ b ∧ b ≤ 4294967295 ∧ 1 ≤ per ∧ per ≤ 16 ∧ (l.length : Int) ≤ per)) : checkV s b per l = false := by
  cases h2 : checkV s b per l with
  | false => rfl
  | true =>
    exfalso
    unfold checkV inB at h2
    simp at h2
    omega

end Go.Proofs.YtjhopkamfeadjaaDoor.queue
