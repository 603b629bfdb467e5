/- The walk of hopperlaw04.TxnBytes. -/
import Derived.Test.YtedhkfkiopgmbaaDoorTxnOpen
import Derived.Test.YtedhkfkiopgmbaaDoorRow
import Derived.Laws.StructEq
namespace Go.Proofs.YtedhkfkiopgmbaaDoor.txnBytes
open Go.RowKit Go.ChangeShapes Go.WideShapes codec txn Sx
set_option linter.unusedVariables false
set_option linter.unusedSimpArgs false

theorem ret_some (o : Option Tx) : ∃ s n t c g : Int, ∃ d : ByteArray, ∃ is : Bool, retDec o = .tuple #[.agg #[.int .i64 s, .int .i64 n, .int .i64 t, .int .i64 c, .int .i64 g, .string d], .bool is] := by
  rcases o with _ | x
  · exact ⟨_, _, _, _, _, _, _, rfl⟩
  · exact ⟨_, _, _, _, _, _, _, rfl⟩

theorem eql_tx (az an ap ac ag bz bn bp bc bg : Int) (ad bd : ByteArray) (w : World) :
    (binOp .eql 28 (.agg #[.int .i64 az, .int .i64 an, .int .i64 ap, .int .i64 ac, .int .i64 ag, .string ad]) (.agg #[.int .i64 bz, .int .i64 bn, .int .i64 bp, .int .i64 bc, .int .i64 bg, .string bd])).run Tryd.prog w =
      .ok (.bool (az == bz && (an == bn && (ap == bp && (ac == bc && (ag == bg && ad.toList == bd.toList)))))) w := by
  cases h1 : (az == bz) <;> cases h2 : (an == bn) <;> cases h3 : (ap == bp) <;> cases h4 : (ac == bc) <;> cases h5 : (ag == bg) <;> simp [go_sem, h1, h2, h3, h4, h5]
  by_cases q : ad.toList = bd.toList <;> simp [q]
theorem eql_str (x y : Operand) (a b : ByteArray) (w : World) : (do eqGuard .eql 9 x y (.string a) (.string b); pure (Next.value (← binOp .eql 9 (.string a) (.string b))) : Sem Next).run Tryd.prog w = .ok (.value (.bool (a.toList == b.toList))) w := by
  by_cases q : a.toList = b.toList <;> simp [eqGuard, go_sem, q]
theorem neq_str (x y : Operand) (a b : ByteArray) (w : World) : (do eqGuard .neq 9 x y (.string a) (.string b); pure (Next.value (← binOp .neq 9 (.string a) (.string b))) : Sem Next).run Tryd.prog w = .ok (.value (.bool (a.toList != b.toList))) w := by
  have e := eql_str x y a b w
  have h : (a.toList != b.toList) = !(a.toList == b.toList) := rfl
  rw [h]
  by_cases q : a.toList = b.toList
  · simp [eqGuard, go_sem, q]
  · simp [eqGuard, go_sem, q, bne]
theorem eql_bool (x y : Operand) (a b : Bool) (w : World) : (do eqGuard .eql 4 x y (.bool a) (.bool b); pure (Next.value (← binOp .eql 4 (.bool a) (.bool b))) : Sem Next).run Tryd.prog w = .ok (.value (.bool (a == b))) w := by
  cases a <;> cases b <;> simp [eqGuard, go_sem]
theorem neq_bool (x y : Operand) (a b : Bool) (w : World) : (do eqGuard .neq 4 x y (.bool a) (.bool b); pure (Next.value (← binOp .neq 4 (.bool a) (.bool b))) : Sem Next).run Tryd.prog w = .ok (.value (.bool (a != b))) w := by
  cases a <;> cases b <;> simp [eqGuard, go_sem]
theorem no_bytes : ({ data := #[] } : ByteArray).toList = [] := by rw [ByteArray.toList_eq]
theorem tx_eq (a b : Tx) : (a.s == b.s && (a.n == b.n && (a.t == b.t && (a.c == b.c && (a.g == b.g && a.d.toList == b.d.toList))))) = true ↔ a = b := by
  obtain ⟨az, an, ap, ac, ag, ad⟩ := a
  obtain ⟨bz, bn, bp, bc, bg, bd⟩ := b
  rw [ByteArray.toList_eq, ByteArray.toList_eq]
  simp only [Bool.and_eq_true, beq_iff_eq, Tx.mk.injEq]
  constructor
  · rintro ⟨h1, h2, h3, h4, h5, h6⟩
    exact ⟨h1, h2, h3, h4, h5, by apply ByteArray.ext; exact Array.toList_inj.1 h6⟩
  · rintro ⟨h1, h2, h3, h4, h5, h6⟩
    exact ⟨h1, h2, h3, h4, h5, by rw [h6]⟩
theorem cut_none (x : Tx) : dec ((encV x).take ((encV x).length / 2)) = none := by
  cases hok : x.ok with
  | false =>
    have e : encV x = [] := by unfold encV; rw [hok]; rfl
    rw [e]
    rfl
  | true =>
    have e : encV x = enc x := by unfold encV; rw [hok]; rfl
    rw [e]
    rcases h : dec ((enc x).take ((enc x).length / 2)) with _ | y
    · rfl
    · exfalso
      obtain ⟨hy, ey⟩ := dec_some _ _ h
      have e2 : enc x = enc y ++ (enc x).drop ((enc x).length / 2) := by rw [← ey, List.take_append_drop]
      have d1 := dec_enc x hok []
      rw [List.append_nil, if_pos rfl, e2, dec_enc y hy] at d1
      have hl := (enc_len x hok).2
      rw [if_neg (fun q => by
        have := congrArg List.length q
        rw [List.length_drop] at this
        simp at this
        omega)] at d1
      cases d1

set_option maxHeartbeats 2000000 in
set_option maxRecDepth 100000 in
theorem walk (a b : Tx) (more : ByteArray) (w : World) (hM : Most w) (fa : a.fine) (fb : b.fine) (wm : more.size ≤ maxLen) :
    Calls Tryd.prog 17 #[a.val, b.val, .string more] w fun e w' => e = .returned (.bool true) ∧ Below w.heap.size w w' := by
  have da := fa.2.2.2.2.2
  have db := fb.2.2.2.2.2
  have hm := wm
  unfold maxLen at hm
  have la := encV_len a
  have lb := encV_len b
  have lm : more.data.toList.length = more.size := by simp
  have EQ := eql_tx a.s a.n a.t a.c a.g b.s b.n b.t b.c b.g a.d b.d
  have cat : (⟨(encV a).toArray⟩ : ByteArray) ++ more = ⟨(encV a ++ more.data.toList).toArray⟩ := by
    apply ByteArray.ext
    simp
  have D2 := (fun w hM => decode_any ⟨((encV a).take ((encV a).length / 2)).toArray⟩ w hM (by show ((encV a).take ((encV a).length / 2)).length ≤ maxLen; rw [List.length_take]; unfold maxLen; omega))
  simp only [] at D2
  rw [cut_none a] at D2
  simp only [retDec, Tx.zero, Tx.val] at D2
  have S1 := str_to ⟨(encV a).toArray⟩ ((encV a).length / 2) (((encV a).length : Int) / 2) (by omega) (by show (encV a).length / 2 ≤ (encV a).length; omega)
  simp only [] at S1
  have D1 : more.size ≤ 100 → (∀ w, Most w → Calls Tryd.prog 58 #[.string (⟨(encV a).toArray⟩ ++ more)] w fun e w' => e = .returned (retDec (dec (encV a ++ more.data.toList))) ∧ Below w.heap.size w w') := by
    intro h
    rw [cat]
    exact (fun w hM => decode_any ⟨(encV a ++ more.data.toList).toArray⟩ w hM (by show (encV a ++ more.data.toList).length ≤ maxLen; rw [List.length_append]; unfold maxLen; omega))
  -- how the answers hang together
  have R : (a.ok = false ∧ (b.ok = true ∨ b.ok = false) ∧ ∃ zs zn zp zc zg : Int, ∃ zd : ByteArray, ∃ is : Bool, retDec (dec (encV a ++ more.data.toList)) = .tuple #[.agg #[.int .i64 zs, .int .i64 zn, .int .i64 zp, .int .i64 zc, .int .i64 zg, .string zd], .bool is]) ∨
      (a.ok = true ∧ (idV a == ([] : List UInt8)) = false ∧ (b.ok = false ∨ (b.ok = true ∧ (encV a == encV b) = (a.s == b.s && (a.n == b.n && (a.t == b.t && (a.c == b.c && (a.g == b.g && a.d.toList == b.d.toList))))))) ∧ ∃ zs zn zp zc zg : Int, ∃ zd : ByteArray, ∃ is : Bool, (more.toList == ([] : List UInt8)) = is ∧ retDec (dec (encV a ++ more.data.toList)) = .tuple #[.agg #[.int .i64 zs, .int .i64 zn, .int .i64 zp, .int .i64 zc, .int .i64 zg, .string zd], .bool is]) := by
    cases ha : a.ok with
    | false =>
      refine Or.inl ⟨rfl, by cases b.ok <;> simp, ?_⟩
      exact ret_some _
    | true =>
      have ea : encV a = enc a := by unfold encV; rw [ha]; rfl
      refine Or.inr ⟨rfl, ?_, ?_, ?_⟩
      · have := id_len a ha
        cases h : idV a with
        | nil => rw [h] at this; cases this
        | cons c l => rfl
      · cases hb : b.ok with
        | false => exact Or.inl rfl
        | true =>
          have eb : encV b = enc b := by unfold encV; rw [hb]; rfl
          refine Or.inr ⟨rfl, ?_⟩
          rw [Bool.eq_iff_iff, tx_eq, ea, eb, beq_iff_eq]
          exact enc_inj a b ha hb
      · rw [ea, dec_enc a ha]
        by_cases q : more.data.toList = []
        · rw [if_pos q]
          exact ⟨_, _, _, _, _, _, true, by rw [ByteArray.toList_eq, q]; rfl, rfl⟩
        · rw [if_neg q]
          exact ⟨_, _, _, _, _, _, false, by rw [ByteArray.toList_eq]; simpa using q, rfl⟩
  generalize retDec (dec (encV a ++ more.data.toList)) = V1 at D1 R
  generalize hI : idV a = I at R
  generalize hka : a.ok = ka at R
  generalize hkb : b.ok = kb at R
  have hP := Eq.refl (encV a)
  generalize hr : (a.s == b.s && (a.n == b.n && (a.t == b.t && (a.c == b.c && (a.g == b.g && a.d.toList == b.d.toList))))) = r at EQ R
  refine calls_of_exec env_ok Tryd.func17 rfl [] (by kernel_rfl) [] (by simp) ?_
  refine meet (.bool (decide (a.d.size ≤ 500))) (by kernel_rfl) (fun β ρ w' vs hM' hR => ?_) ?_
  · obtain rfl := Rels.vals_eq (l := [a.val]) hR
    exact small a w' da
  refine wp_g0 (fun h1 => ?_) (fun h1 => ?_)
  · refine meet (.bool (decide (b.d.size ≤ 500))) (by kernel_rfl) (fun β ρ w' vs hM' hR => ?_) ?_
    · obtain rfl := Rels.vals_eq (l := [b.val]) hR
      exact small b w' db
    refine wp_g0 (fun h2 => ?_) (fun h2 => ?_)
    · refine wp_br (fun h3 => ?_) (fun h3 => ?_)
      · refine meet (.bool true) (by kernel_rfl) (fun β ρ w' vs hM' hR => ?_) ?_
        · obtain rfl := Rels.vals_eq (l := []) hR
          exact live_true w' (hM.later hM'.below)
        exact wp_back fun β ρ w' hM' => ⟨rfl, hM'.below⟩
      · have h3' : more.size ≤ 100 := by simp at h3; omega
        have D1 := D1 h3'
        have HALF : ∀ w : World, (do eqGuard .quo 3 (.tmp 62) (.const (.int .i64 2)) (.int .i64 ((encV a).length : Int)) (.int .i64 2); pure (Next.value (← binOp .quo 3 (.int .i64 ((encV a).length : Int)) (.int .i64 2))) : Sem Next).run Tryd.prog w = .ok (.value (.int .i64 (((encV a).length : Int) / 2))) w := by
          intro w
          simp [eqGuard, go_sem]
          exact IntWalk.i64_in _ (by constructor <;> omega)
        have CUT : ∀ w : World, (do pure (Next.value (← Instr.sliceAt 9 (.string ⟨(encV a).toArray⟩) none (some (.int .i64 (((encV a).length : Int) / 2))) none)) : Sem Next).run Tryd.prog w = .ok (.value (.string ⟨((encV a).take ((encV a).length / 2)).toArray⟩)) w := by
          intro w
          have := S1 w
          simp [Instr.sliceAt, run_underlying Tryd.underlying9, Sem.run_bind, this]
        rcases R with ⟨rfl, rfl | rfl, zs, zn, zp, zc, zg, zd, is, rfl⟩ | ⟨rfl, hi, rfl | ⟨rfl, hq⟩, zs, zn, zp, zc, zg, zd, is, hv, rfl⟩
        · refine meet (.tuple #[.string ⟨(encV a).toArray⟩, .bool false]) (by kernel_rfl) (fun β ρ w' vs hM' hR => ?_) ?_
          · obtain rfl := Rels.vals_eq (l := [a.val]) hR
            rw [← hka]; exact encode a w' (hM.later hM'.below) da
          refine meet (.tuple #[.string ⟨(encV b).toArray⟩, .bool true]) (by kernel_rfl) (fun β ρ w' vs hM' hR => ?_) ?_
          · obtain rfl := Rels.vals_eq (l := [b.val]) hR
            rw [← hkb]; exact encode b w' (hM.later hM'.below) db
          refine wp_prim (.string (⟨(encV a).toArray⟩ ++ more)) (fun w => by simp [eqGuard, go_sem]; (unfold maxLen at *); omega) ?_
          refine meet (.tuple #[.agg #[.int .i64 zs, .int .i64 zn, .int .i64 zp, .int .i64 zc, .int .i64 zg, .string zd], .bool is]) (by kernel_rfl) (fun β ρ w' vs hM' hR => ?_) ?_
          · obtain rfl := Rels.vals_eq (l := [.string (⟨(encV a).toArray⟩ ++ more)]) hR
            exact D1 w' (hM.later hM'.below)
          refine wp_prim (.int .i64 (((encV a).length : Int) / 2)) (fun w => HALF w) ?_
          refine wp_prim (.string ⟨((encV a).take ((encV a).length / 2)).toArray⟩) (fun w => CUT w) ?_
          refine meet (.tuple #[.agg #[.int .i64 0, .int .i64 0, .int .i64 0, .int .i64 0, .int .i64 0, .string ⟨#[]⟩], .bool false]) (by kernel_rfl) (fun β ρ w' vs hM' hR => ?_) ?_
          · obtain rfl := Rels.vals_eq (l := [.string ⟨((encV a).take ((encV a).length / 2)).toArray⟩]) hR
            exact D2 w' (hM.later hM'.below)
          refine meet (.bool true) (by kernel_rfl) (fun β ρ w' vs hM' hR => ?_) ?_
          · obtain rfl := Rels.vals_eq (l := []) hR
            exact live_true w' (hM.later hM'.below)
          exact wp_back fun β ρ w' hM' => ⟨rfl, hM'.below⟩
        · refine meet (.tuple #[.string ⟨(encV a).toArray⟩, .bool false]) (by kernel_rfl) (fun β ρ w' vs hM' hR => ?_) ?_
          · obtain rfl := Rels.vals_eq (l := [a.val]) hR
            rw [← hka]; exact encode a w' (hM.later hM'.below) da
          refine meet (.tuple #[.string ⟨(encV b).toArray⟩, .bool false]) (by kernel_rfl) (fun β ρ w' vs hM' hR => ?_) ?_
          · obtain rfl := Rels.vals_eq (l := [b.val]) hR
            rw [← hkb]; exact encode b w' (hM.later hM'.below) db
          refine wp_prim (.string (⟨(encV a).toArray⟩ ++ more)) (fun w => by simp [eqGuard, go_sem]; (unfold maxLen at *); omega) ?_
          refine meet (.tuple #[.agg #[.int .i64 zs, .int .i64 zn, .int .i64 zp, .int .i64 zc, .int .i64 zg, .string zd], .bool is]) (by kernel_rfl) (fun β ρ w' vs hM' hR => ?_) ?_
          · obtain rfl := Rels.vals_eq (l := [.string (⟨(encV a).toArray⟩ ++ more)]) hR
            exact D1 w' (hM.later hM'.below)
          refine wp_prim (.int .i64 (((encV a).length : Int) / 2)) (fun w => HALF w) ?_
          refine wp_prim (.string ⟨((encV a).take ((encV a).length / 2)).toArray⟩) (fun w => CUT w) ?_
          refine meet (.tuple #[.agg #[.int .i64 0, .int .i64 0, .int .i64 0, .int .i64 0, .int .i64 0, .string ⟨#[]⟩], .bool false]) (by kernel_rfl) (fun β ρ w' vs hM' hR => ?_) ?_
          · obtain rfl := Rels.vals_eq (l := [.string ⟨((encV a).take ((encV a).length / 2)).toArray⟩]) hR
            exact D2 w' (hM.later hM'.below)
          refine meet (.bool true) (by kernel_rfl) (fun β ρ w' vs hM' hR => ?_) ?_
          · obtain rfl := Rels.vals_eq (l := []) hR
            exact live_true w' (hM.later hM'.below)
          exact wp_back fun β ρ w' hM' => ⟨rfl, hM'.below⟩
        · refine meet (.tuple #[.string ⟨(encV a).toArray⟩, .bool true]) (by kernel_rfl) (fun β ρ w' vs hM' hR => ?_) ?_
          · obtain rfl := Rels.vals_eq (l := [a.val]) hR
            rw [← hka]; exact encode a w' (hM.later hM'.below) da
          refine meet (.tuple #[.string ⟨(encV b).toArray⟩, .bool false]) (by kernel_rfl) (fun β ρ w' vs hM' hR => ?_) ?_
          · obtain rfl := Rels.vals_eq (l := [b.val]) hR
            rw [← hkb]; exact encode b w' (hM.later hM'.below) db
          refine wp_prim (.string (⟨(encV a).toArray⟩ ++ more)) (fun w => by simp [eqGuard, go_sem]; (unfold maxLen at *); omega) ?_
          refine meet (.tuple #[.agg #[.int .i64 zs, .int .i64 zn, .int .i64 zp, .int .i64 zc, .int .i64 zg, .string zd], .bool is]) (by kernel_rfl) (fun β ρ w' vs hM' hR => ?_) ?_
          · obtain rfl := Rels.vals_eq (l := [.string (⟨(encV a).toArray⟩ ++ more)]) hR
            exact D1 w' (hM.later hM'.below)
          refine wp_prim (.int .i64 (((encV a).length : Int) / 2)) (fun w => HALF w) ?_
          refine wp_prim (.string ⟨((encV a).take ((encV a).length / 2)).toArray⟩) (fun w => CUT w) ?_
          refine meet (.tuple #[.agg #[.int .i64 0, .int .i64 0, .int .i64 0, .int .i64 0, .int .i64 0, .string ⟨#[]⟩], .bool false]) (by kernel_rfl) (fun β ρ w' vs hM' hR => ?_) ?_
          · obtain rfl := Rels.vals_eq (l := [.string ⟨((encV a).take ((encV a).length / 2)).toArray⟩]) hR
            exact D2 w' (hM.later hM'.below)
          refine wp_prim (.bool is) (fun w => by rw [eql_str, no_bytes, hv]) ?_
          refine wp_prim (.bool true) (fun w => by rw [eql_bool]; simp) ?_
          refine meet (.string ⟨(idV a).toArray⟩) (by kernel_rfl) (fun β ρ w' vs hM' hR => ?_) ?_
          · obtain rfl := Rels.vals_eq (l := [a.val]) hR
            exact txn.id a w' (hM.later hM'.below) da
          refine wp_prim (.bool true) (fun w => by rw [neq_str, ByteArray.toList_eq]; rw [← hI] at hi; simp at hi; simp [hi]) ?_
          refine meet (.bool true) (by kernel_rfl) (fun β ρ w' vs hM' hR => ?_) ?_
          · obtain rfl := Rels.vals_eq (l := []) hR
            exact live_true w' (hM.later hM'.below)
          exact wp_back fun β ρ w' hM' => ⟨rfl, hM'.below⟩
        · refine meet (.tuple #[.string ⟨(encV a).toArray⟩, .bool true]) (by kernel_rfl) (fun β ρ w' vs hM' hR => ?_) ?_
          · obtain rfl := Rels.vals_eq (l := [a.val]) hR
            rw [← hka]; exact encode a w' (hM.later hM'.below) da
          refine meet (.tuple #[.string ⟨(encV b).toArray⟩, .bool true]) (by kernel_rfl) (fun β ρ w' vs hM' hR => ?_) ?_
          · obtain rfl := Rels.vals_eq (l := [b.val]) hR
            rw [← hkb]; exact encode b w' (hM.later hM'.below) db
          refine wp_prim (.bool (encV a == encV b)) (fun w => by rw [eql_str, ByteArray.toList_eq, ByteArray.toList_eq]) ?_
          refine wp_prim (.bool r) (fun w => by have := EQ w; simp [eqGuard, this]) ?_
          refine wp_prim (.bool false) (fun w => by rw [neq_bool, hq]; simp) ?_
          refine wp_prim (.string (⟨(encV a).toArray⟩ ++ more)) (fun w => by simp [eqGuard, go_sem]; (unfold maxLen at *); omega) ?_
          refine meet (.tuple #[.agg #[.int .i64 zs, .int .i64 zn, .int .i64 zp, .int .i64 zc, .int .i64 zg, .string zd], .bool is]) (by kernel_rfl) (fun β ρ w' vs hM' hR => ?_) ?_
          · obtain rfl := Rels.vals_eq (l := [.string (⟨(encV a).toArray⟩ ++ more)]) hR
            exact D1 w' (hM.later hM'.below)
          refine wp_prim (.int .i64 (((encV a).length : Int) / 2)) (fun w => HALF w) ?_
          refine wp_prim (.string ⟨((encV a).take ((encV a).length / 2)).toArray⟩) (fun w => CUT w) ?_
          refine meet (.tuple #[.agg #[.int .i64 0, .int .i64 0, .int .i64 0, .int .i64 0, .int .i64 0, .string ⟨#[]⟩], .bool false]) (by kernel_rfl) (fun β ρ w' vs hM' hR => ?_) ?_
          · obtain rfl := Rels.vals_eq (l := [.string ⟨((encV a).take ((encV a).length / 2)).toArray⟩]) hR
            exact D2 w' (hM.later hM'.below)
          refine wp_prim (.bool is) (fun w => by rw [eql_str, no_bytes, hv]) ?_
          refine wp_prim (.bool true) (fun w => by rw [eql_bool]; simp) ?_
          refine meet (.string ⟨(idV a).toArray⟩) (by kernel_rfl) (fun β ρ w' vs hM' hR => ?_) ?_
          · obtain rfl := Rels.vals_eq (l := [a.val]) hR
            exact txn.id a w' (hM.later hM'.below) da
          refine wp_prim (.bool true) (fun w => by rw [neq_str, ByteArray.toList_eq]; rw [← hI] at hi; simp at hi; simp [hi]) ?_
          refine meet (.bool true) (by kernel_rfl) (fun β ρ w' vs hM' hR => ?_) ?_
          · obtain rfl := Rels.vals_eq (l := []) hR
            exact live_true w' (hM.later hM'.below)
          exact wp_back fun β ρ w' hM' => ⟨rfl, hM'.below⟩
    · refine meet (.bool true) (by kernel_rfl) (fun β ρ w' vs hM' hR => ?_) ?_
      · obtain rfl := Rels.vals_eq (l := []) hR
        exact live_true w' (hM.later hM'.below)
      exact wp_back fun β ρ w' hM' => ⟨rfl, hM'.below⟩
  · refine meet (.bool true) (by kernel_rfl) (fun β ρ w' vs hM' hR => ?_) ?_
    · obtain rfl := Rels.vals_eq (l := []) hR
      exact live_true w' (hM.later hM'.below)
    exact wp_back fun β ρ w' hM' => ⟨rfl, hM'.below⟩
end Go.Proofs.YtedhkfkiopgmbaaDoor.txnBytes
