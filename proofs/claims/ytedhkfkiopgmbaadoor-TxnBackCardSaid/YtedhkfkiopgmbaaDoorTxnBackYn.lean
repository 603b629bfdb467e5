/- A case of the walk of hopperlaw04.TxnBack. -/
import Derived.Test.YtedhkfkiopgmbaaDoorTxnBackLem
namespace Go.Proofs.YtedhkfkiopgmbaaDoor.txnBack
open Go.RowKit Go.ChangeShapes Go.WideShapes codec txn Sx txnBytes
set_option linter.unusedVariables false
set_option linter.unusedSimpArgs false

set_option maxHeartbeats 2000000 in
set_option maxRecDepth 100000 in
theorem walk_yn (x : Tx) (s : ByteArray) (w : World) (hM : Most w) (fx : x.fine) (ws : s.size ≤ maxLen) (z1 : x.d.size ≤ 500) (z2 : s.size ≤ 2000) (hok : x.ok = true) (hds : dec s.data.toList = none) :
    Calls Tryd.prog 16 #[x.val, .string s] w fun e w' => e = .returned (.bool true) ∧ Below w.heap.size w w' := by
  have da : x.d.size ≤ maxLen := fx.2.2.2.2.2
  have hm := ws
  have la := encV_len x
  have hP : (⟨(encV x).toArray⟩ : ByteArray).size ≤ maxLen := by show (encV x).length ≤ maxLen; unfold maxLen; omega
  have hsz : decide (((⟨(encV x).toArray⟩ : ByteArray).size : Int) > 400) = false := by
    have : (⟨(encV x).toArray⟩ : ByteArray).size = (encV x).length := rfl
    rw [this]
    simp
    omega
  obtain ⟨b0, b1, b2⟩ := slotV_to x
  have b3 := (slotV_to (less x)).2.1
  have b4 := less_to x
  have hdl : (less x).d.size ≤ maxLen := by
    show (x.d.data.toList.take (x.d.size / 2)).length ≤ _
    rw [List.length_take]
    have : x.d.data.toList.length = x.d.size := by simp
    omega
  have CUT : ∀ w : World, (do pure (Next.value (← Instr.sliceAt 9 (.string x.d) none (some (.int .i64 ((x.d.size : Int) / 2))) none)) : Sem Next).run Tryd.prog w = .ok (.value (.string (cutB x.d))) w := by
    intro w
    have := str_to x.d (x.d.size / 2) ((x.d.size : Int) / 2) (by omega) (by omega) w
    simp [Instr.sliceAt, run_underlying Tryd.underlying9, Sem.run_bind, this, cutB]
  have DE := fun w hM => decode_any ⟨(encV x).toArray⟩ w hM hP
  have hde : dec (encV x) = if x.ok then some x else none := by
    unfold encV
    cases h : x.ok with
    | false => rw [if_neg (by simp), if_neg (by simp)]; rfl
    | true =>
      rw [if_pos rfl, if_pos rfl]
      have := dec_enc x h []
      rw [List.append_nil, if_pos rfl] at this
      exact this
  simp only [] at DE
  rw [hde] at DE
  have DS := fun w hM => decode_any s w hM ws
  refine calls_of_exec env_ok Tryd.func16 rfl [(13, (line [0, 2, 1, 3, 4, 5, 6, 7, 8, 9, 10, 12, 11, 13, 14, 15, 16, 17, 18, 19, 20], []))] (by kernel_rfl) [] (by simp) ?_
  refine meet (.bool (decide (x.d.size ≤ 500))) (by kernel_rfl) (fun β ρ w' vs hM' hR => ?_) ?_
  · obtain rfl := Rels.vals_eq (l := [x.val]) hR
    exact small x w' da
  refine wp_g0 (fun h1 => ?_) (fun h1 => absurd h1 (by simp; omega))
  refine wp_br (fun h3 => absurd h3 (by simp; omega)) (fun h3 => ?_)
  rw [hok] at DE
  refine meet (.tuple #[.string ⟨(encV x).toArray⟩, .bool true]) (by kernel_rfl) (fun β ρ w' vs hM' hR => ?_) ?_
  · obtain rfl := Rels.vals_eq (l := [x.val]) hR
    rw [← hok]; exact encode x w' (hM.later hM'.below) da
  refine meet (.tuple #[x.val, .bool true]) (by kernel_rfl) (fun β ρ w' vs hM' hR => ?_) ?_
  · obtain rfl := Rels.vals_eq (l := [.string ⟨(encV x).toArray⟩]) hR
    exact DE w' (hM.later hM'.below)
  refine meet (.bool true) (by kernel_rfl) (fun β ρ w' vs hM' hR => ?_) ?_
  · obtain rfl := Rels.vals_eq (l := [x.val]) hR
    rw [← hok]; exact check x w' (hM.later hM'.below)
  refine wp_prim (.bool false) (fun w => by rw [neq_bool]; rfl) ?_
  refine wp_prim (.bool false) (fun w => by exact neq_same x _ _ w) ?_
  refine wp_g0 (fun h5 => ?_) (fun h5 => absurd h5 (by rw [hsz]; simp))
  refine meet (.int .i64 (slotV x)) (by kernel_rfl) (fun β ρ w' vs hM' hR => ?_) ?_
  · obtain rfl := Rels.vals_eq (l := [x.val]) hR
    exact slots x w' (hM.later hM'.below) da
  refine wp_g0 (fun h6 => ?_) (fun h6 => absurd h6 (by have := b2 hok; simp; omega))
  refine meet (.int .i64 (slotV x)) (by kernel_rfl) (fun β ρ w' vs hM' hR => ?_) ?_
  · obtain rfl := Rels.vals_eq (l := [x.val]) hR
    exact slots x w' (hM.later hM'.below) da
  refine wp_g0 (fun h7 => ?_) (fun h7 => absurd h7 (by simp; omega))
  rw [hds] at DS
  refine meet (.tuple #[Tx.zero.val, .bool false]) (by kernel_rfl) (fun β ρ w' vs hM' hR => ?_) ?_
  · obtain rfl := Rels.vals_eq (l := [.string s]) hR
    exact DS w' (hM.later hM'.below)
  refine meet (.tuple #[.string ⟨(encV Tx.zero).toArray⟩, .bool false]) (by kernel_rfl) (fun β ρ w' vs hM' hR => ?_) ?_
  · obtain rfl := Rels.vals_eq (l := [Tx.zero.val]) hR
    have := encode Tx.zero w' (hM.later hM'.below) (by show 0 ≤ maxLen; unfold maxLen; omega); rw [zero_ok] at this; exact this
  refine wp_prim (.int .i64 ((x.d.size : Int) / 2)) (fun w => by exact half _ _ _ da w) ?_
  refine wp_prim (.string (cutB x.d)) (fun w => by exact CUT w) ?_
  refine meet (.int .i64 (slotV (less x))) (by kernel_rfl) (fun β ρ w' vs hM' hR => ?_) ?_
  · obtain rfl := Rels.vals_eq (l := [(less x).val]) hR
    exact slots (less x) w' (hM.later hM'.below) hdl
  refine meet (.int .i64 (slotV x)) (by kernel_rfl) (fun β ρ w' vs hM' hR => ?_) ?_
  · obtain rfl := Rels.vals_eq (l := [x.val]) hR
    exact slots x w' (hM.later hM'.below) da
  refine wp_prim (.int .i64 (max (slotV x) 13)) (fun w => by exact max2 _ _ _ _ w) ?_
  refine wp_g1 (fun h8 => ?_) (fun h8 => absurd h8 (by simp; omega))
  refine meet (.int .i64 (slotV (less x))) (by kernel_rfl) (fun β ρ w' vs hM' hR => ?_) ?_
  · obtain rfl := Rels.vals_eq (l := [(less x).val]) hR
    exact slots (less x) w' (hM.later hM'.below) hdl
  refine meet (.int .i64 (slotV x)) (by kernel_rfl) (fun β ρ w' vs hM' hR => ?_) ?_
  · obtain rfl := Rels.vals_eq (l := [x.val]) hR
    exact slots x w' (hM.later hM'.below) da
  refine wp_g1 (fun h9 => ?_) (fun h9 => absurd h9 (by have := b4 hok; simp; omega))
  refine meet (.bool true) (by kernel_rfl) (fun β ρ w' vs hM' hR => ?_) ?_
  · obtain rfl := Rels.vals_eq (l := []) hR
    exact live_true w' (hM.later hM'.below)
  exact wp_back fun β ρ w' hM' => ⟨rfl, hM'.below⟩

end Go.Proofs.YtedhkfkiopgmbaaDoor.txnBack
