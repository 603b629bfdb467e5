/- Layer 12 (greedy): blocks of accounts that may be, plainly. -/
import Derived.Test.YtohikebnlamnnaaDoorGreedyQ
namespace Go.Proofs.YtohikebnlamnnaaDoor.greedy
open Go.RowKit Sx txn queue
set_option linter.unusedVariables false
set_option linter.unusedSimpArgs false
theorem getD_set (left : List (List Tx)) (i : Nat) (r : List Tx) (hi : i < left.length) (j : Nat) : (left.set i r).getD j [] = if i = j then r else left.getD j [] := by
  rw [List.getD_eq_getElem?_getD, List.getElem?_set, List.getD_eq_getElem?_getD]
  by_cases e : i = j
  · subst e; simp [hi]
  · simp [e]
theorem ofV_cons_same {t : Tx} {l : List Tx} {s : Int} (h : t.s = s) : ofV (t :: l) s = t :: ofV l s := by unfold ofV; rw [List.filter_cons, if_pos (by simpa using h)]
theorem ofV_cons_other {t : Tx} {l : List Tx} {s : Int} (h : t.s ≠ s) : ofV (t :: l) s = ofV l s := by unfold ofV; rw [List.filter_cons, if_neg (by simpa using h)]
theorem sumG_pos {l : List Tx} (h : ∀ t ∈ l, 1 ≤ t.g) : 0 ≤ sumG l := by
  induction l with
  | nil => exact Int.le_refl _
  | cons x l ih =>
    rw [sumG_cons]
    have h1 := h x (by simp)
    have h2 := ih fun t ht => h t (by simp [ht])
    omega
theorem sumG_append (l r : List Tx) : sumG (l ++ r) = sumG l + sumG r := by unfold sumG; simp
theorem tpl_costs {left : List (List Tx)} {gas : Int} (h : costs left) : ∀ t ∈ tplV left gas, 1 ≤ t.g ∧ t.g ≤ 1073741824 := fun t ht => by
  obtain ⟨r, hr, htr⟩ := tpl_mem left gas t ht
  exact h r hr t htr
/-- Whose each list is. -/
def Labels (S : Nat → Int) (N : Nat) (left : List (List Tx)) : Prop := left.length = N ∧ ∀ i, i < N → ∀ t ∈ left.getD i [], t.s = S i
theorem Labels.set {S : Nat → Int} {N : Nat} {left : List (List Tx)} (h : Labels S N left) {i : Nat} {r : List Tx} (hi : i < N) (hr : ∀ t ∈ r, t.s = S i) : Labels S N (left.set i r) := by
  refine ⟨by rw [List.length_set]; exact h.1, fun j hj t ht => ?_⟩
  rw [getD_set left i r (by rw [h.1]; exact hi)] at ht
  by_cases e : i = j
  · subst e; rw [if_pos rfl] at ht; exact hr t ht
  · rw [if_neg e] at ht; exact h.2 j hj t ht
theorem tpl_parts (S : Nat → Int) (N : Nat) (hS : ∀ i j, i < N → j < N → S i = S j → i = j) (left : List (List Tx)) (gas : Int) (hl : Labels S N left) (hc : costs left) :
    ∀ i, i < N → ofV (tplV left gas) (S i) <+: left.getD i [] ∧ ∀ x r, left.getD i [] = ofV (tplV left gas) (S i) ++ x :: r → gas - sumG (tplV left gas) < x.g := by
  refine tpl_ind (motive := fun left gas => Labels S N left → costs left → ∀ i, i < N → ofV (tplV left gas) (S i) <+: left.getD i [] ∧ ∀ x r, left.getD i [] = ofV (tplV left gas) (S i) ++ x :: r → gas - sumG (tplV left gas) < x.g) ?_ ?_ ?_ _ left gas (Nat.le_refl _) hl hc
  · intro left gas hb hl hc i hi
    rw [tplV_none hb]
    refine ⟨List.nil_prefix, fun x r h => ?_⟩
    have := bestI_none.1 hb i (by rw [hl.1]; exact hi)
    rw [this] at h; cases h
  · intro left gas i t r hb hr hg ih hl hc j hj
    have hi := getD_lt hr
    have hiN : i < N := by rw [← hl.1]; exact hi
    have hl' := hl.set (r := []) hiN (fun t ht => by cases ht)
    have hc' := costs_set hc (i := i) (r := []) (fun t ht => by cases ht)
    have h1 := ih hl' hc' j hj
    rw [tpl_skip hb hg]
    rw [getD_set left i [] hi] at h1
    by_cases e : i = j
    · subst e
      rw [if_pos rfl] at h1
      have h2 : ofV (tplV (left.set i []) gas) (S i) = [] := List.prefix_nil.1 h1.1
      rw [h2, hr]
      refine ⟨List.nil_prefix, fun x r' h => ?_⟩
      cases h
      have := sumG_pos (l := tplV (left.set i []) gas) (fun t ht => (tpl_costs hc' t ht).1)
      omega
    · rw [if_neg e] at h1
      exact h1
  · intro left gas i t r hb hr hg ih hl hc j hj
    have hi := getD_lt hr
    have hiN : i < N := by rw [← hl.1]; exact hi
    have hts : ∀ z ∈ t :: r, z.s = S i := fun z hz => hl.2 i hiN z (by rw [hr]; exact hz)
    have hcs := costs_get hc hr
    have hl' := hl.set (r := r) hiN (fun z hz => hts z (by simp [hz]))
    have hc' := costs_set hc (i := i) (r := r) (fun z hz => hcs z (by simp [hz]))
    have h1 := ih hl' hc' j hj
    rw [tpl_take hb hr hg, sumG_cons]
    rw [getD_set left i r hi] at h1
    by_cases e : i = j
    · subst e
      rw [if_pos rfl] at h1
      rw [ofV_cons_same (hts t (by simp)), hr]
      refine ⟨(List.prefix_cons_inj t).2 h1.1, fun x r' h => ?_⟩
      have h2 := h1.2 x r' (by simpa using h)
      omega
    · rw [if_neg e] at h1
      have hne : t.s ≠ S j := by rw [hts t (by simp)]; exact fun h => e (hS i j hiN hj h)
      rw [ofV_cons_other hne]
      refine ⟨h1.1, fun x r' h => ?_⟩
      have h2 := h1.2 x r' h
      omega
theorem tpl_full (left : List (List Tx)) (gas : Int) (hc : costs left) (hg : (sizeL left : Int) * 1073741824 ≤ gas) : (tplV left gas).length = sizeL left := by
  refine tpl_ind (motive := fun left gas => costs left → (sizeL left : Int) * 1073741824 ≤ gas → (tplV left gas).length = sizeL left) ?_ ?_ ?_ _ left gas (Nat.le_refl _) hc hg
  · intro left gas hb hc hg
    rw [tplV_none hb]
    have h1 := bestI_none.1 hb
    unfold sizeL
    have : ∀ x ∈ left.map List.length, x ≤ 0 := fun x hx => by
      obtain ⟨r, hr, rfl⟩ := List.mem_map.1 hx
      obtain ⟨i, hi⟩ := List.getElem?_of_mem hr
      have h2 := h1 i (List.getElem?_eq_some_iff.1 hi).1
      rw [List.getD_eq_getElem?_getD, hi] at h2
      have h2 : r = [] := h2
      rw [h2]; exact Nat.le_refl _
    have := sum_le this
    simp at this ⊢
    omega
  · intro left gas i t r hb hr hg ih hc hgas
    exfalso
    have h1 := size_nil hr
    have h2 := (costs_get hc hr t (by simp)).2
    have h3 : 1 ≤ sizeL left := by omega
    have h4 : (1 : Int) * 1073741824 ≤ (sizeL left : Int) * 1073741824 := Int.mul_le_mul_of_nonneg_right (by omega) (by omega)
    omega
  · intro left gas i t r hb hr hg ih hc hgas
    have hcs := costs_get hc hr
    have h5 := sizeL_set (getD_lt hr) r
    rw [hr, List.length_cons] at h5
    have h6 : sizeL left = sizeL (left.set i r) + 1 := by omega
    have h2 := (hcs t (by simp)).2
    rw [tpl_take hb hr hg, List.length_cons, ih (costs_set hc fun z hz => hcs z (by simp [hz])) (by rw [h6] at hgas; push_cast at hgas; omega)]
    omega
theorem tpl_adj (S : Nat → Int) (N : Nat) (left : List (List Tx)) (gas : Int) (hl : Labels S N left) : ∀ A x y B, tplV left gas = A ++ x :: y :: B → x.s ≠ y.s → betterV y x = false := by
  refine tpl_ind (motive := fun left gas => Labels S N left → ∀ A x y B, tplV left gas = A ++ x :: y :: B → x.s ≠ y.s → betterV y x = false) ?_ ?_ ?_ _ left gas (Nat.le_refl _) hl
  · intro left gas hb hl A x y B h
    rw [tplV_none hb] at h
    cases A <;> simp at h
  · intro left gas i t r hb hr hg ih hl A x y B h hne
    have hi := getD_lt hr
    rw [tpl_skip hb hg] at h
    exact ih (hl.set (by rw [← hl.1]; exact hi) (fun t ht => by cases ht)) A x y B h hne
  · intro left gas i t r hb hr hg ih hl A x y B h hne
    have hi := getD_lt hr
    have hiN : i < N := by rw [← hl.1]; exact hi
    have hts : ∀ z ∈ t :: r, z.s = S i := fun z hz => hl.2 i hiN z (by rw [hr]; exact hz)
    rw [tpl_take hb hr hg] at h
    cases A with
    | cons a A =>
      exact ih (hl.set hiN (fun z hz => hts z (by simp [hz]))) A x y B (by simpa using (List.cons.inj h).2) hne
    | nil =>
      obtain ⟨rfl, h2⟩ := List.cons.inj h
      obtain ⟨j, r', h3⟩ := (tpl_first (left.set i r) (gas - t.g)).2 y B h2
      rw [getD_set left i r hi] at h3
      by_cases e : i = j
      · subst e
        rw [if_pos rfl] at h3
        exact absurd ((hts t (by simp)).trans (hts y (by rw [h3]; simp)).symm) hne
      · rw [if_neg e] at h3
        exact bestI_best hb j (getD_lt h3) y r' h3
theorem rises_all {s b : Int} : ∀ {l : List Tx}, risesV s b l = true → ∀ x ∈ l, x.ok = true ∧ x.s = s
  | [], _, x, hx => by cases hx
  | y :: l, h, x, hx => by
    unfold risesV at h
    simp only [Bool.and_eq_true, beq_iff_eq] at h
    rcases List.mem_cons.1 hx with rfl | hx
    · exact ⟨h.1.1.1, h.1.1.2⟩
    · exact rises_all h.2 x hx
theorem lineR_ok {r : List Tx} (h : ∀ t ∈ r, t.ok = true) : lineR r = r := by
  have : ∀ (r : List Tx) (k : Nat), (∀ t ∈ r, t.ok = true) → idx bad r k = -1 := by
    intro r
    induction r with
    | nil => intro k _; rfl
    | cons x r ih =>
      intro k h
      unfold idx bad
      rw [h x (by simp)]
      exact ih (k + 1) fun t ht => h t (by simp [ht])
  unfold lineR
  rw [this r 0 h]
  rfl
theorem lineV_ready {s b per : Int} {l : List Tx} (h : checkV s b per l = true) : lineV b l = readyV b l ∧ ∀ t ∈ readyV b l, t.s = s := by
  unfold checkV at h
  simp only [Bool.and_eq_true] at h
  have h2 := rises_all h.2
  exact ⟨lineR_ok fun t ht => (h2 t (List.mem_of_mem_take ht)).1, fun t ht => (h2 t (List.mem_of_mem_take ht)).2⟩
/-- Accounts that may be, each of a sender of its own. -/
structure GoodL (L : List Ac) : Prop where
  nd : (L.map (·.s)).Nodup
  ck : ∀ x ∈ L, checkV x.s x.b 16 x.l = true
theorem firstsV_self {L : List Ac} (h : (L.map (·.s)).Nodup) : firstsV L = L := by
  have : ∀ k, firstsV (L.take k) = L.take k := by
    intro k
    induction k with
    | zero => rfl
    | succ k ih =>
      cases hx : L[k]? with
      | none => rw [List.take_add_one, hx]; simpa using ih
      | some x =>
        rw [firstsV_take hx, ih, List.take_add_one, hx]
        unfold frS
        rw [if_neg]
        · rfl
        · intro ha
          obtain ⟨y, hy, he⟩ := List.any_eq_true.1 ha
          obtain ⟨j, hj⟩ := List.getElem?_of_mem hy
          have hjk : j < k := by have := (List.getElem?_eq_some_iff.1 hj).1; rw [List.length_take] at this; omega
          rw [List.getElem?_take, if_pos hjk] at hj
          have h1 : (L.map (·.s))[j]? = some x.s := by rw [List.getElem?_map, hj]; exact congrArg some (by simpa using he)
          have h2 : (L.map (·.s))[k]? = some x.s := by rw [List.getElem?_map, hx]; rfl
          have h5 := (List.getElem?_eq_some_iff.1 h1).2.trans (List.getElem?_eq_some_iff.1 h2).2.symm
          have := (List.getElem_inj h).1 h5
          omega
  have := this L.length
  rwa [List.take_length] at this
def sOf (L : List Ac) (i : Nat) : Int := match L[i]? with | some x => x.s | none => 0
def rdys (L : List Ac) : List (List Tx) := L.map fun x => readyV x.b x.l
theorem rdys_get {L : List Ac} {i : Nat} {x : Ac} (h : L[i]? = some x) : (rdys L).getD i [] = readyV x.b x.l := by
  unfold rdys; rw [List.getD_eq_getElem?_getD, List.getElem?_map, h]; rfl
theorem GoodL.tmpl {L : List Ac} (h : GoodL L) (gas : Int) : templateV L gas = tplV (rdys L) gas := by
  unfold templateV rdys
  rw [firstsV_self h.nd]
  congr 1
  exact List.map_congr_left fun x hx => (lineV_ready (h.ck x hx)).1
theorem GoodL.lines {L : List Ac} (h : GoodL L) : (firstsV L).map (fun x => lineV x.b x.l) = rdys L := by
  unfold rdys
  rw [firstsV_self h.nd]
  exact List.map_congr_left fun x hx => (lineV_ready (h.ck x hx)).1
theorem GoodL.costs {L : List Ac} (h : GoodL L) : costs (rdys L) := by rw [← h.lines]; exact tmpl_costs L
theorem GoodL.labels {L : List Ac} (h : GoodL L) : Labels (sOf L) L.length (rdys L) := by
  refine ⟨by unfold rdys; simp, fun i hi t ht => ?_⟩
  have hx : L[i]? = some L[i] := List.getElem?_eq_getElem hi
  rw [rdys_get hx] at ht
  unfold sOf
  rw [hx]
  exact (lineV_ready (h.ck _ (List.getElem_mem hi))).2 t ht
theorem GoodL.inj {L : List Ac} (h : GoodL L) : ∀ i j, i < L.length → j < L.length → sOf L i = sOf L j → i = j := by
  intro i j hi hj he
  unfold sOf at he
  rw [List.getElem?_eq_getElem hi, List.getElem?_eq_getElem hj] at he
  have he : L[i].s = L[j].s := he
  have h3 : i < (L.map (·.s)).length := by simpa using hi
  have h4 : j < (L.map (·.s)).length := by simpa using hj
  exact (List.getElem_inj h.nd (h₀ := h3) (h₁ := h4)).1 (by simpa using he)
theorem stP_get {P : List (Int × List Tx)} (h : (P.map (·.1)).Nodup) {i : Nat} {q : Int × List Tx} (hq : P[i]? = some q) : stP P q.1 = q.2 := by
  have : ∀ k, i < k → stP (P.take k) q.1 = q.2 := by
    intro k
    induction k with
    | zero => intro h; omega
    | succ k ih =>
      intro hik
      cases hx : P[k]? with
      | none =>
        rw [List.take_add_one, hx]
        have hi := (List.getElem?_eq_some_iff.1 hq).1
        have hk : P.length ≤ k := List.getElem?_eq_none_iff.1 hx
        simpa using ih (by omega)
      | some z =>
        rw [stP_take hx]
        unfold upd
        by_cases e : i = k
        · subst e; rw [hq] at hx; cases hx; exact if_pos rfl
        · rw [if_neg]
          · exact ih (by omega)
          · intro hs
            have h1 : (P.map (·.1))[i]? = some q.1 := by rw [List.getElem?_map, hq]; rfl
            have h2 : (P.map (·.1))[k]? = some q.1 := by rw [List.getElem?_map, hx]; exact congrArg some hs.symm
            have h5 := (List.getElem?_eq_some_iff.1 h1).2.trans (List.getElem?_eq_some_iff.1 h2).2.symm
            exact e ((List.getElem_inj h).1 h5)
  have hi := (List.getElem?_eq_some_iff.1 hq).1
  have := this P.length hi
  rwa [List.take_length] at this
theorem GoodL.follows {L : List Ac} (h : GoodL L) (gas : Int) : followsV L (templateV L gas) = true := by
  unfold followsV
  rw [follows_iff, h.tmpl gas]
  intro x hx
  obtain ⟨r, hr, hxr⟩ := tpl_mem _ _ x hx
  obtain ⟨i, hi⟩ := List.getElem?_of_mem hr
  have hil : i < L.length := by have := (List.getElem?_eq_some_iff.1 hi).1; unfold rdys at this; simpa using this
  have hL : L[i]? = some L[i] := List.getElem?_eq_getElem hil
  have hg : (rdys L).getD i [] = r := by rw [List.getD_eq_getElem?_getD, hi]; rfl
  have hs := h.labels.2 i hil x (by rw [hg]; exact hxr)
  have hp := (tpl_parts (sOf L) L.length h.inj (rdys L) gas h.labels h.costs i hil).1
  rw [hs]
  have hst : stP ((firstsV L).map lnOf) (sOf L i) = (rdys L).getD i [] := by
    rw [firstsV_self h.nd, rdys_get hL]
    have hq : (L.map lnOf)[i]? = some (lnOf L[i]) := by rw [List.getElem?_map, hL]; rfl
    have hnd : ((L.map lnOf).map (·.1)).Nodup := by rw [List.map_map]; exact h.nd
    have := stP_get hnd hq
    unfold sOf
    rw [hL]
    exact this.trans (lineV_ready (h.ck _ (List.getElem_mem hil))).1
  rw [hst]
  exact hp
end Go.Proofs.YtohikebnlamnnaaDoor.greedy
