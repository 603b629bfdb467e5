/- Facts for the walk of hopperlaw04.TxnBack. -/
import Derived.Test.YtedhkfkiopgmbaaDoorTxnBytesWalk
namespace Go.Proofs.YtedhkfkiopgmbaaDoor.txnBack
open Go.RowKit Go.ChangeShapes Go.WideShapes codec txn Sx txnBytes
set_option linter.unusedVariables false
set_option linter.unusedSimpArgs false

theorem neq_same (a : Tx) (x y : Operand) (w : World) : (do eqGuard .neq 28 x y a.val a.val; pure (Next.value (← binOp .neq 28 a.val a.val)) : Sem Next).run Tryd.prog w = .ok (.value (.bool false)) w := by
  simp [go_sem, eqGuard, Tx.val]
theorem half (x y : Operand) (n : Nat) (h : n ≤ maxLen) (w : World) : (do eqGuard .quo 3 x y (.int .i64 (n : Int)) (.int .i64 2); pure (Next.value (← binOp .quo 3 (.int .i64 (n : Int)) (.int .i64 2))) : Sem Next).run Tryd.prog w = .ok (.value (.int .i64 ((n : Int) / 2))) w := by
  simp [eqGuard, go_sem]
  unfold maxLen at h
  exact IntWalk.i64_in _ (by constructor <;> omega)
theorem max2 (tys : Array TypeId) (ty : TypeId) (a b : Int) (w : World) : (do pure (Next.value (← Builtin.max_ tys ty (List.toArray [.int .i64 a, .int .i64 b]))) : Sem Next).run Tryd.prog w = .ok (.value (.int .i64 (max a b))) w := by
  simp [Builtin.max_, Builtin.max2, go_sem]
  split <;> omega
def cutB (d : ByteArray) : ByteArray := ⟨(d.data.toList.take (d.size / 2)).toArray⟩
def less (x : Tx) : Tx := ⟨x.s, x.n, x.t, x.c, x.g, cutB x.d⟩
theorem slotV_to (x : Tx) : 0 ≤ slotV x ∧ slotV x ≤ 13 ∧ (x.ok = true → 1 ≤ slotV x) := by
  unfold slotV
  cases h : x.ok with
  | false => rw [if_neg (by simp)]; exact ⟨by omega, by omega, fun h => by cases h⟩
  | true =>
    rw [if_pos rfl]
    have l1 := enc_len x h
    have k1 := h
    simp only [Tx.ok, decide_eq_true_eq] at k1
    generalize (enc x).length = L at l1 ⊢
    have hL : L ≤ 285 := by omega
    unfold sat.slotsV sat.slotsOf
    rw [if_pos (by omega)]
    refine ⟨?_, ?_, fun _ => ?_⟩ <;> (repeat' split) <;> omega
theorem less_to (x : Tx) (h : x.ok = true) : slotV (less x) ≤ slotV x := by
  have h2 : (less x).ok = true := by
    have k1 := h
    simp only [Tx.ok, decide_eq_true_eq] at k1 ⊢
    have : (less x).d.size ≤ x.d.size := by show (x.d.data.toList.take (x.d.size / 2)).length ≤ _; rw [List.length_take]; simp; omega
    have e : (less x).s = x.s ∧ (less x).n = x.n ∧ (less x).t = x.t ∧ (less x).c = x.c ∧ (less x).g = x.g := ⟨rfl, rfl, rfl, rfl, rfl⟩
    omega
  have l1 := enc_len x h
  have l2 := enc_len _ h2
  have e : (enc (less x)).length ≤ (enc x).length := by
    simp only [enc, less, cutB, List.length_append, text_len]
    have : (x.d.data.toList.take (x.d.size / 2)).length ≤ x.d.data.toList.length := by rw [List.length_take]; omega
    omega
  have k1 := h
  simp only [Tx.ok, decide_eq_true_eq] at k1
  unfold slotV
  rw [h, h2, if_pos rfl, if_pos rfl]
  generalize (enc (less x)).length = K at e l2 ⊢
  generalize (enc x).length = L at e l1 ⊢
  unfold sat.slotsV sat.slotsOf
  have hL : L ≤ 285 := by omega
  repeat' split
  all_goals omega
theorem zero_ok : Tx.zero.ok = false := by decide

end Go.Proofs.YtedhkfkiopgmbaaDoor.txnBack
