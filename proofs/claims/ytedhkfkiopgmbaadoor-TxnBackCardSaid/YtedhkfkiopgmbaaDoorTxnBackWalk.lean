/- The walk of hopperlaw04.TxnBack. -/
import Derived.Test.YtedhkfkiopgmbaaDoorTxnBackNn
import Derived.Test.YtedhkfkiopgmbaaDoorTxnBackNs
import Derived.Test.YtedhkfkiopgmbaaDoorTxnBackYn
import Derived.Test.YtedhkfkiopgmbaaDoorTxnBackYs
namespace Go.Proofs.YtedhkfkiopgmbaaDoor.txnBack
open Go.RowKit Go.ChangeShapes Go.WideShapes codec txn Sx txnBytes
set_option linter.unusedVariables false
set_option linter.unusedSimpArgs false

set_option maxHeartbeats 2000000 in
set_option maxRecDepth 100000 in
theorem walk_big (x : Tx) (s : ByteArray) (w : World) (hM : Most w) (fx : x.fine) (ws : s.size ≤ maxLen) (z : ¬ (x.d.size ≤ 500 ∧ s.size ≤ 2000)) :
    Calls Tryd.prog 16 #[x.val, .string s] w fun e w' => e = .returned (.bool true) ∧ Below w.heap.size w w' := by
  have da : x.d.size ≤ maxLen := fx.2.2.2.2.2
  have hm := ws
  have la := encV_len x
  have hP : (⟨(encV x).toArray⟩ : ByteArray).size ≤ maxLen := by show (encV x).length ≤ maxLen; unfold maxLen; omega
  have hsz : decide (((⟨(encV x).toArray⟩ : ByteArray).size : Int) > 400) = false := by
    have : (⟨(encV x).toArray⟩ : ByteArray).size = (encV x).length := rfl
    rw [this]
    simp
    omega
  obtain ⟨b0, b1, b2⟩ := slotV_to x
  have b3 := (slotV_to (less x)).2.1
  have b4 := less_to x
  have hdl : (less x).d.size ≤ maxLen := by
    show (x.d.data.toList.take (x.d.size / 2)).length ≤ _
    rw [List.length_take]
    have : x.d.data.toList.length = x.d.size := by simp
    omega
  have CUT : ∀ w : World, (do pure (Next.value (← Instr.sliceAt 9 (.string x.d) none (some (.int .i64 ((x.d.size : Int) / 2))) none)) : Sem Next).run Tryd.prog w = .ok (.value (.string (cutB x.d))) w := by
    intro w
    have := str_to x.d (x.d.size / 2) ((x.d.size : Int) / 2) (by omega) (by omega) w
    simp [Instr.sliceAt, run_underlying Tryd.underlying9, Sem.run_bind, this, cutB]
  have DE := fun w hM => decode_any ⟨(encV x).toArray⟩ w hM hP
  have hde : dec (encV x) = if x.ok then some x else none := by
    unfold encV
    cases h : x.ok with
    | false => rw [if_neg (by simp), if_neg (by simp)]; rfl
    | true =>
      rw [if_pos rfl, if_pos rfl]
      have := dec_enc x h []
      rw [List.append_nil, if_pos rfl] at this
      exact this
  simp only [] at DE
  rw [hde] at DE
  have DS := fun w hM => decode_any s w hM ws
  refine calls_of_exec env_ok Tryd.func16 rfl [(13, (line [0, 2, 1, 3, 4, 5, 6, 7, 8, 9, 10, 12, 11, 13, 14, 15, 16, 17, 18, 19, 20], []))] (by kernel_rfl) [] (by simp) ?_
  refine meet (.bool (decide (x.d.size ≤ 500))) (by kernel_rfl) (fun β ρ w' vs hM' hR => ?_) ?_
  · obtain rfl := Rels.vals_eq (l := [x.val]) hR
    exact small x w' da
  refine wp_g0 (fun h1 => ?_) (fun h1 => ?_)
  · refine wp_br (fun h3 => ?_) (fun h3 => absurd z (by simp at h1 h3; omega))
    refine meet (.bool true) (by kernel_rfl) (fun β ρ w' vs hM' hR => ?_) ?_
    · obtain rfl := Rels.vals_eq (l := []) hR
      exact live_true w' (hM.later hM'.below)
    exact wp_back fun β ρ w' hM' => ⟨rfl, hM'.below⟩
  · refine meet (.bool true) (by kernel_rfl) (fun β ρ w' vs hM' hR => ?_) ?_
    · obtain rfl := Rels.vals_eq (l := []) hR
      exact live_true w' (hM.later hM'.below)
    exact wp_back fun β ρ w' hM' => ⟨rfl, hM'.below⟩

set_option maxHeartbeats 2000000 in
set_option maxRecDepth 100000 in
theorem walk (x : Tx) (s : ByteArray) (w : World) (hM : Most w) (fx : x.fine) (ws : s.size ≤ maxLen) :
    Calls Tryd.prog 16 #[x.val, .string s] w fun e w' => e = .returned (.bool true) ∧ Below w.heap.size w w' := by
  by_cases z : x.d.size ≤ 500 ∧ s.size ≤ 2000
  · cases hok : x.ok with
    | false =>
      rcases hds : dec s.data.toList with _ | k
      · exact walk_nn x s w hM fx ws z.1 z.2 hok hds
      · exact walk_ns x s w hM fx ws z.1 z.2 hok k hds
    | true =>
      rcases hds : dec s.data.toList with _ | k
      · exact walk_yn x s w hM fx ws z.1 z.2 hok hds
      · exact walk_ys x s w hM fx ws z.1 z.2 hok k hds
  · exact walk_big x s w hM fx ws z
end Go.Proofs.YtedhkfkiopgmbaaDoor.txnBack
