/- Layer 5 (queue), by contract: what may be placed. -/
import Derived.Test.YtjhopkamfeadjaaDoorQueueA
import Derived.Test.YtjhopkamfeadjaaDoorRaise
namespace Go.Proofs.YtjhopkamfeadjaaDoor.queue
open Go.RowKit Sx txn
set_option linter.unusedVariables false
set_option linter.unusedSimpArgs false


def replV (old t : Tx) (bump : Int) : Int × Int := bif !rz.raiseB old.t bump || decide (t.t < rz.raiseV old.t bump) then (0, 4) else (slotV t - slotV old, 0)
def placeV (s b per : Int) (l : List Tx) (t : Tx) (bump : Int) : Int × Int :=
  bif !(checkV s b per l && t.ok && (t.s == s) && inB bump 0 100) then (0, 1) else bif decide (t.n < b) then (0, 3) else
    bif (findV l t.n).2 then replV (findV l t.n).1 t bump else bif (l.length : Int) == per then (0, 5) else (slotV t, 0)
theorem ret_two' {a b c d : Int} (h : (a, b) = (c, d)) : Ending.returned (tup [.int .i64 a, .int .i64 b]) = .returned (.tuple #[.int .i64 c, .int .i64 d]) := by cases h; rfl

theorem findV_mem (l : List Tx) (v : Int) : (findV l v).1 ∈ l ∨ (findV l v).1 = tx0 := by
  unfold findV
  cases h : l[srch (fun _ m => m == v) l 0]? with
  | none => exact .inr rfl
  | some x => exact .inl (List.mem_of_getElem? h)

end Go.Proofs.YtjhopkamfeadjaaDoor.queue
