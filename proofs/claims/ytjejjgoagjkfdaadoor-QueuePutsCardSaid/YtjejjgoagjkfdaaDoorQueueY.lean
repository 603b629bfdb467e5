/- Layer 5 (queue): what follows of lists that rise, of what is found, put, dropped and placed. Plain lists; no memory. -/
import Derived.Test.YtjejjgoagjkfdaaDoorQueueW
import Derived.Test.YtjejjgoagjkfdaaDoorQueueV
namespace Go.Proofs.YtjejjgoagjkfdaaDoor.queue
open Go.RowKit Sx txn
set_option linter.unusedVariables false
set_option linter.unusedSimpArgs false

/-! ### Find -/
theorem findV_nil (v : Int) : findV [] v = (tx0, false) := rfl
theorem findV_cons (x : Tx) (l : List Tx) (v : Int) : findV (x :: l) v = if x.n = v then (x, true) else findV l v := by
  unfold findV
  rw [srch_cons (fun m => m == v)]
  by_cases h : x.n = v
  · rw [if_pos h, show (x.n == v) = true by simpa using h, cond_true]
    rfl
  · rw [if_neg h, show (x.n == v) = false by simpa using h, cond_false, List.getElem?_cons_succ]
theorem findV_no {l : List Tx} {v : Int} (h : (findV l v).2 = false) : ∀ x ∈ l, x.n ≠ v := by
  induction l with
  | nil => simp
  | cons y l ih =>
    rw [findV_cons] at h
    by_cases hy : y.n = v
    · rw [if_pos hy] at h; cases h
    · rw [if_neg hy] at h
      intro x hx
      rcases List.mem_cons.1 hx with rfl | hx
      · exact hy
      · exact ih h x hx
theorem findV_none {l : List Tx} {v : Int} (h : ∀ x ∈ l, x.n ≠ v) : findV l v = (tx0, false) := by
  induction l with
  | nil => rfl
  | cons y l ih =>
    rw [findV_cons, if_neg (h y List.mem_cons_self)]
    exact ih fun x hx => h x (List.mem_cons_of_mem _ hx)
theorem findV_yes {l : List Tx} {v : Int} (h : (findV l v).2 = true) : (findV l v).1 ∈ l ∧ (findV l v).1.n = v := by
  induction l with
  | nil => cases h
  | cons y l ih =>
    rw [findV_cons] at h ⊢
    by_cases hy : y.n = v
    · rw [if_pos hy]; exact ⟨List.mem_cons_self, hy⟩
    · rw [if_neg hy] at h ⊢
      exact ⟨List.mem_cons_of_mem _ (ih h).1, (ih h).2⟩

/-! ### Put -/
theorem putGo_cons (is : Bool) (t x : Tx) (l : List Tx) : putGo is t (x :: l) false = bif (x.n == t.n) then t :: l else bif !is && decide (x.n > t.n) then t :: x :: l else x :: putGo is t l false := by
  have h := putGo_drop is t (x :: l) 0 x false rfl
  simp only [List.drop_zero, Nat.zero_add, List.drop_one, List.tail_cons, Bool.not_false, Bool.true_and, putGo_true] at h
  exact h
theorem putGo_nil (is : Bool) (t : Tx) : putGo is t [] false = [t] := rfl
theorem putGo_find (is : Bool) (t : Tx) : ∀ l : List Tx, findV (putGo is t l false) t.n = (t, true)
  | [] => by rw [putGo_nil, findV_cons, if_pos rfl]
  | x :: l => by
    rw [putGo_cons]
    cases h : (x.n == t.n) with
    | true => rw [cond_true, findV_cons, if_pos rfl]
    | false =>
      rw [cond_false]
      cases h2 : (!is && decide (x.n > t.n)) with
      | true => rw [cond_true, findV_cons, if_pos rfl]
      | false => rw [cond_false, findV_cons, if_neg (by simpa using h)]; exact putGo_find is t l
theorem putV_find (t : Tx) (l : List Tx) : findV (putV t l) t.n = (t, true) := putGo_find _ t l
theorem putGo_again (is : Bool) (t : Tx) : ∀ l : List Tx, putGo true t (putGo is t l false) false = putGo is t l false
  | [] => by rw [putGo_nil, putGo_cons]; simp
  | x :: l => by
    rw [putGo_cons is]
    cases h : (x.n == t.n) with
    | true => rw [cond_true, putGo_cons]; simp
    | false =>
      rw [cond_false]
      cases h2 : (!is && decide (x.n > t.n)) with
      | true => rw [cond_true, putGo_cons]; simp
      | false => rw [cond_false, putGo_cons, h]; simp [putGo_again is t l]
theorem putV_again (t : Tx) (l : List Tx) : putV t (putV t l) = putV t l := by
  have h : putV t (putV t l) = putGo (findV (putV t l) t.n).2 t (putV t l) false := rfl
  rw [h, putV_find]
  exact putGo_again _ t l
theorem mem_putGo {is : Bool} {t y : Tx} : ∀ {l : List Tx}, y ∈ putGo is t l false → y = t ∨ y ∈ l
  | [], h => by rw [putGo_nil] at h; simp at h; exact .inl h
  | x :: l, h => by
    rw [putGo_cons] at h
    cases h1 : (x.n == t.n) with
    | true =>
      rw [h1, cond_true] at h
      rcases List.mem_cons.1 h with h | h
      · exact .inl h
      · exact .inr (List.mem_cons_of_mem _ h)
    | false =>
      rw [h1, cond_false] at h
      cases h2 : (!is && decide (x.n > t.n)) with
      | true =>
        rw [h2, cond_true] at h
        rcases List.mem_cons.1 h with h | h
        · exact .inl h
        · exact .inr h
      | false =>
        rw [h2, cond_false] at h
        rcases List.mem_cons.1 h with h | h
        · exact .inr (h ▸ List.mem_cons_self)
        · rcases mem_putGo h with h | h
          · exact .inl h
          · exact .inr (List.mem_cons_of_mem _ h)
theorem mem_putV {t y : Tx} {l : List Tx} (h : y ∈ putV t l) : y = t ∨ y ∈ l := mem_putGo h

/-! ### Drop -/
theorem dropV_find (v : Int) (l : List Tx) : (findV (dropV v l) v).2 = false := by
  rw [findV_none]
  intro x hx
  simp only [dropV, List.mem_filter, bne_iff_ne, ne_eq] at hx
  exact hx.2

/-! ### Lists that rise -/
theorem rises_cons {s b : Int} {x : Tx} {l : List Tx} (h : risesV s b (x :: l) = true) : x.ok = true ∧ x.s = s ∧ b ≤ x.n ∧ risesV s (x.n + 1) l = true := by
  simp only [risesV, Bool.and_eq_true, beq_iff_eq, Bool.not_eq_true', decide_eq_false_iff_not] at h
  exact ⟨h.1.1.1, h.1.1.2, by omega, h.2⟩
theorem rises_mk {s b : Int} {x : Tx} {l : List Tx} (h1 : x.ok = true) (h2 : x.s = s) (h3 : b ≤ x.n) (h4 : risesV s (x.n + 1) l = true) : risesV s b (x :: l) = true := by
  simp only [risesV, Bool.and_eq_true, beq_iff_eq, Bool.not_eq_true', decide_eq_false_iff_not]
  exact ⟨⟨⟨h1, h2⟩, by omega⟩, h4⟩
theorem rises_low {s b b' : Int} : ∀ {l : List Tx}, risesV s b l = true → b' ≤ b → risesV s b' l = true
  | [], _, _ => rfl
  | x :: l, h, hb => by
    obtain ⟨h1, h2, h3, h4⟩ := rises_cons h
    exact rises_mk h1 h2 (by omega) h4
theorem rises_all {s b : Int} : ∀ {l : List Tx}, risesV s b l = true → ∀ x ∈ l, x.ok = true ∧ x.s = s ∧ b ≤ x.n
  | [], _, x, hx => by simp at hx
  | y :: l, h, x, hx => by
    obtain ⟨h1, h2, h3, h4⟩ := rises_cons h
    rcases List.mem_cons.1 hx with rfl | hx
    · exact ⟨h1, h2, h3⟩
    · have := rises_all h4 x hx
      exact ⟨this.1, this.2.1, by omega⟩
theorem rises_filter {s b : Int} (p : Tx → Bool) : ∀ {l : List Tx}, risesV s b l = true → risesV s b (l.filter p) = true
  | [], _ => rfl
  | x :: l, h => by
    obtain ⟨h1, h2, h3, h4⟩ := rises_cons h
    have ih := rises_filter p h4
    by_cases hp : p x = true
    · rw [List.filter_cons_of_pos hp]; exact rises_mk h1 h2 h3 ih
    · rw [List.filter_cons_of_neg hp]; exact rises_low ih (by omega)
/-- Of a list that rises: what is below a number stands ahead. -/
theorem rises_split {s b y : Int} : ∀ {l : List Tx}, risesV s b l = true → below y l ++ above y l = l
  | [], _ => rfl
  | x :: l, h => by
    obtain ⟨h1, h2, h3, h4⟩ := rises_cons h
    by_cases hx : x.n < y
    · have e1 : below y (x :: l) = x :: below y l := List.filter_cons_of_pos (by simpa using hx)
      have e2 : above y (x :: l) = above y l := List.filter_cons_of_neg (by simpa using hx)
      rw [e1, e2, List.cons_append, rises_split h4]
    · have e1 : below y (x :: l) = [] := by
        rw [below, List.filter_eq_nil_iff]
        intro z hz
        rcases List.mem_cons.1 hz with rfl | hz
        · simpa using hx
        · have := (rises_all h4 z hz).2.2
          simp; omega
      have e2 : above y (x :: l) = x :: l := by
        rw [above, List.filter_eq_self]
        intro z hz
        rcases List.mem_cons.1 hz with rfl | hz
        · simpa using hx
        · have := (rises_all h4 z hz).2.2
          simp; omega
      rw [e1, e2, List.nil_append]
theorem above_above {x y : Int} (h : x ≤ y) (l : List Tx) : above y (above x l) = above y l := by
  unfold above
  rw [List.filter_filter]
  congr 1
  funext z
  by_cases h1 : z.n < y <;> by_cases h2 : z.n < x <;> simp [h1, h2] <;> omega
theorem rises_below_below {s b x y : Int} (h : x ≤ y) : ∀ {l : List Tx}, risesV s b l = true → below x l ++ below y (above x l) = below y l
  | [], _ => rfl
  | z :: l, hr => by
    obtain ⟨h1, h2, h3, h4⟩ := rises_cons hr
    by_cases hz : z.n < x
    · have e1 : below x (z :: l) = z :: below x l := List.filter_cons_of_pos (by simpa using hz)
      have e2 : above x (z :: l) = above x l := List.filter_cons_of_neg (by simpa using hz)
      have e3 : below y (z :: l) = z :: below y l := List.filter_cons_of_pos (by simp; omega)
      rw [e1, e2, e3, List.cons_append, rises_below_below h h4]
    · have e1 : below x (z :: l) = [] := by
        rw [below, List.filter_eq_nil_iff]
        intro u hu
        rcases List.mem_cons.1 hu with rfl | hu
        · simpa using hz
        · have := (rises_all h4 u hu).2.2
          simp; omega
      have e2 : above x (z :: l) = z :: l := by
        rw [above, List.filter_eq_self]
        intro u hu
        rcases List.mem_cons.1 hu with rfl | hu
        · simpa using hz
        · have := (rises_all h4 u hu).2.2
          simp; omega
      rw [e1, e2, List.nil_append]
theorem slots_split (p : Tx → Bool) : ∀ l : List Tx, slotsL (l.filter p) + slotsL (l.filter fun x => !p x) = slotsL l
  | [] => rfl
  | x :: l => by
    have ih := slots_split p l
    cases hp : p x with
    | true =>
      rw [List.filter_cons_of_pos hp, List.filter_cons_of_neg (by simp [hp])]
      simp only [slotsL, List.map_cons, List.sum_cons] at ih ⊢
      omega
    | false =>
      rw [List.filter_cons_of_neg (by simp [hp]), List.filter_cons_of_pos (by simp [hp])]
      simp only [slotsL, List.map_cons, List.sum_cons] at ih ⊢
      omega
theorem slots_advance (y : Int) (l : List Tx) : slotsL (above y l) + slotsL (below y l) = slotsL l := by
  have := slots_split (fun x => decide (x.n < y)) l
  unfold above below
  omega

/-! ### Put, of lists that rise -/
/-- By nonces: in the place of its nonce, or ahead of the first one of a greater nonce. -/
def ins (t : Tx) : List Tx → List Tx
  | [] => [t]
  | x :: l => if x.n = t.n then t :: l else if t.n < x.n then t :: x :: l else x :: ins t l
theorem ins_low {s : Int} (t : Tx) : ∀ {b : Int} {l : List Tx}, risesV s b l = true → (findV l t.n).2 = true → ∀ is, putGo is t l false = ins t l
  | b, [], _, hf, _ => by cases hf
  | b, x :: l, h, hf, is => by
    obtain ⟨h1, h2, h3, h4⟩ := rises_cons h
    rw [putGo_cons, ins]
    by_cases hx : x.n = t.n
    · rw [if_pos hx, show (x.n == t.n) = true by simpa using hx, cond_true]
    · rw [findV_cons, if_neg hx] at hf
      have hm := findV_yes hf
      have := (rises_all h4 _ hm.1).2.2
      rw [if_neg hx, show (x.n == t.n) = false by simpa using hx, cond_false, if_neg (by omega), show (!is && decide (x.n > t.n)) = false by simp; intro _; omega, cond_false, ins_low t h4 hf]
theorem ins_out (t : Tx) : ∀ {l : List Tx}, (findV l t.n).2 = false → putGo false t l false = ins t l
  | [], _ => rfl
  | x :: l, hf => by
    rw [putGo_cons, ins]
    by_cases hx : x.n = t.n
    · rw [findV_cons, if_pos hx] at hf; cases hf
    · rw [findV_cons, if_neg hx] at hf
      rw [if_neg hx, show (x.n == t.n) = false by simpa using hx, cond_false]
      by_cases hlt : t.n < x.n
      · rw [if_pos hlt, show (!false && decide (x.n > t.n)) = true by simpa using hlt, cond_true]
      · rw [if_neg hlt, show (!false && decide (x.n > t.n)) = false by simpa using hlt, cond_false, ins_out t hf]
theorem putV_ins {s b : Int} {t : Tx} {l : List Tx} (h : risesV s b l = true) : putV t l = ins t l := by
  have e : putV t l = putGo (findV l t.n).2 t l false := rfl
  rw [e]
  cases hf : (findV l t.n).2 with
  | true => exact ins_low t h hf _
  | false => exact ins_out t hf
theorem ins_rises {s : Int} {t : Tx} (ht : t.ok = true) (hs : t.s = s) : ∀ {b : Int} {l : List Tx}, risesV s b l = true → b ≤ t.n → risesV s b (ins t l) = true
  | b, [], _, hb => rises_mk ht hs hb rfl
  | b, x :: l, h, hb => by
    obtain ⟨h1, h2, h3, h4⟩ := rises_cons h
    rw [ins]
    by_cases hx : x.n = t.n
    · rw [if_pos hx]; exact rises_mk ht hs hb (by rw [← hx]; exact h4)
    · rw [if_neg hx]
      by_cases hlt : t.n < x.n
      · rw [if_pos hlt]; exact rises_mk ht hs hb (rises_mk h1 h2 (by omega) h4)
      · rw [if_neg hlt]; exact rises_mk h1 h2 h3 (ins_rises ht hs h4 (by omega))
theorem ins_length {t : Tx} : ∀ {l : List Tx}, (ins t l).length ≤ l.length + 1
  | [] => by simp [ins]
  | x :: l => by
    rw [ins]
    split
    · simp
    · split
      · simp
      · have := ins_length (t := t) (l := l); simp; omega
theorem ins_length_in {s : Int} {t : Tx} : ∀ {b : Int} {l : List Tx}, risesV s b l = true → (findV l t.n).2 = true → (ins t l).length = l.length
  | b, [], _, hf => by cases hf
  | b, x :: l, h, hf => by
    obtain ⟨h1, h2, h3, h4⟩ := rises_cons h
    rw [ins]
    by_cases hx : x.n = t.n
    · rw [if_pos hx]; rfl
    · rw [findV_cons, if_neg hx] at hf
      have hm := findV_yes hf
      have := (rises_all h4 _ hm.1).2.2
      rw [if_neg hx, if_neg (by omega), List.length_cons, ins_length_in h4 hf, List.length_cons]
theorem ins_slots_in {s : Int} {t : Tx} : ∀ {b : Int} {l : List Tx}, risesV s b l = true → (findV l t.n).2 = true → slotsL (ins t l) = slotsL l + slotV t - slotV (findV l t.n).1
  | b, [], _, hf => by cases hf
  | b, x :: l, h, hf => by
    obtain ⟨h1, h2, h3, h4⟩ := rises_cons h
    rw [ins]
    by_cases hx : x.n = t.n
    · rw [if_pos hx, findV_cons, if_pos hx]; simp only [slotsL, List.map_cons, List.sum_cons]; omega
    · rw [findV_cons, if_neg hx] at hf ⊢
      have hm := findV_yes hf
      have := (rises_all h4 _ hm.1).2.2
      have ih := ins_slots_in h4 hf
      rw [if_neg hx, if_neg (by omega)]
      simp only [slotsL, List.map_cons, List.sum_cons] at ih ⊢
      omega
theorem ins_slots_out {t : Tx} : ∀ {l : List Tx}, (findV l t.n).2 = false → slotsL (ins t l) = slotsL l + slotV t
  | [], _ => by simp [ins, slotsL]
  | x :: l, hf => by
    rw [ins]
    by_cases hx : x.n = t.n
    · rw [findV_cons, if_pos hx] at hf; cases hf
    · rw [findV_cons, if_neg hx] at hf
      have ih := ins_slots_out hf
      rw [if_neg hx]
      split
      · simp only [slotsL, List.map_cons, List.sum_cons]; omega
      · simp only [slotsL, List.map_cons, List.sum_cons] at ih ⊢; omega
theorem ins_comm {t u : Tx} (h : t.n ≠ u.n) : ∀ l : List Tx, ins u (ins t l) = ins t (ins u l)
  | [] => by
    simp only [ins]
    by_cases h1 : u.n < t.n
    · rw [if_neg h, if_pos h1, if_neg (Ne.symm h), if_neg (by omega)]
    · rw [if_neg h, if_neg h1, if_neg (Ne.symm h), if_pos (by omega)]
  | x :: l => by
    have ih := ins_comm h l
    simp only [ins]
    by_cases hx : x.n = t.n
    · rw [if_pos hx]
      by_cases hu : u.n < x.n
      · rw [if_neg (by omega), if_pos hu]; simp only [ins]; rw [if_neg (by omega), if_pos (by omega), if_neg (by omega), if_neg (by omega), if_pos hx]
      · rw [if_neg (by omega), if_neg hu]; simp only [ins]; rw [if_neg (by omega), if_neg (by omega), if_pos hx]
    · rw [if_neg hx]
      by_cases hlt : t.n < x.n
      · rw [if_pos hlt]
        by_cases hxu : x.n = u.n
        · rw [if_pos hxu]; simp only [ins]; rw [if_neg (by omega), if_neg (by omega), if_pos hxu, if_neg (by omega), if_pos (by omega)]
        · rw [if_neg hxu]
          by_cases hu : u.n < x.n
          · rw [if_pos hu]; simp only [ins]
            by_cases htu : u.n < t.n
            · rw [if_neg (by omega), if_pos htu, if_neg (by omega), if_neg (by omega), if_neg (by omega), if_pos hlt]
            · rw [if_neg (by omega), if_neg htu, if_neg (by omega), if_pos hu, if_neg (by omega), if_pos (by omega)]
          · rw [if_neg hu]; simp only [ins]; rw [if_neg (by omega), if_neg (by omega), if_neg hxu, if_neg hu, if_neg hx, if_pos hlt]
      · rw [if_neg hlt]
        by_cases hxu : x.n = u.n
        · rw [if_pos hxu]; simp only [ins]; rw [if_pos hxu, if_neg (by omega), if_neg (by omega)]
        · rw [if_neg hxu]
          by_cases hu : u.n < x.n
          · rw [if_pos hu]; simp only [ins]; rw [if_neg hxu, if_pos hu, if_neg (by omega), if_neg (by omega), if_neg hx, if_neg hlt]
          · rw [if_neg hu]; simp only [ins]; rw [if_neg hxu, if_neg hu, if_neg hx, if_neg hlt, ih]
theorem putV_comm {s b : Int} {t u : Tx} {l : List Tx} (h : risesV s b l = true) (ht : t.ok = true) (hu : u.ok = true) (hne : t.n ≠ u.n) : putV u (putV t l) = putV t (putV u l) := by
  have G : ∀ (t u : Tx), putV u (putV t l) = ins u (ins t l) := by
    intro t u
    have e : putV t l = ins t l := putV_ins h
    rw [e]
    have e2 : putV u (ins t l) = putGo (findV (ins t l) u.n).2 u (ins t l) false := rfl
    rw [e2]
    -- whoever the transaction is, the list's nonces rise
    have N : ∀ (l : List Tx), (∀ (i j : Nat) (x y : Tx), i < j → l[i]? = some x → l[j]? = some y → x.n < y.n) → putGo (findV l u.n).2 u l false = ins u l := by
      intro l
      induction l with
      | nil => intro _; rfl
      | cons x l ih =>
        intro hl
        have hl' := ih fun i j x y hij hi hj => hl (i + 1) (j + 1) x y (by omega) (by simpa using hi) (by simpa using hj)
        rw [putGo_cons, ins, findV_cons]
        by_cases hx : x.n = u.n
        · rw [if_pos hx, if_pos hx, show (x.n == u.n) = true by simpa using hx, cond_true]
        · rw [if_neg hx, if_neg hx, show (x.n == u.n) = false by simpa using hx, cond_false]
          by_cases hlt : u.n < x.n
          · have hno : (findV l u.n).2 = false := by
              rw [findV_none]
              intro z hz
              obtain ⟨k, hk, rfl⟩ := List.getElem_of_mem hz
              have := hl 0 (k + 1) x l[k] (by omega) rfl (by simp [List.getElem?_eq_getElem hk])
              omega
            rw [if_pos hlt, hno, show (!false && decide (x.n > u.n)) = true by simpa using hlt, cond_true]
          · rw [if_neg hlt, show (!(findV l u.n).2 && decide (x.n > u.n)) = false by simp; intro _; omega, cond_false, hl']
    have U : ∀ {b : Int} {l : List Tx}, risesV s b l = true → (∀ y ∈ ins t l, y.n = t.n ∨ y ∈ l) ∧ ∀ (i j : Nat) (x y : Tx), i < j → (ins t l)[i]? = some x → (ins t l)[j]? = some y → x.n < y.n := by
      intro b l
      induction l generalizing b with
      | nil =>
        intro _
        refine ⟨by simp [ins], fun i j x y hij hi hj => ?_⟩
        have := (List.getElem?_eq_some_iff.1 hj).1
        simp [ins] at this
        omega
      | cons z l ih =>
        intro h
        obtain ⟨h1, h2, h3, h4⟩ := rises_cons h
        obtain ⟨m1, m2⟩ := ih h4
        have R : ∀ {b : Int} {l : List Tx}, risesV s b l = true → ∀ (i j : Nat) (x y : Tx), i < j → l[i]? = some x → l[j]? = some y → x.n < y.n := by
          intro b l
          induction l generalizing b with
          | nil => intro _ i j x y _ hi; simp at hi
          | cons q l ihq =>
            intro h i j x y hij hi hj
            obtain ⟨_, _, _, q4⟩ := rises_cons h
            cases j with
            | zero => omega
            | succ j =>
              cases i with
              | zero =>
                simp at hi
                subst hi
                have := (rises_all q4 y (List.mem_of_getElem? (by simpa using hj))).2.2
                omega
              | succ i => exact ihq q4 i j x y (by omega) (by simpa using hi) (by simpa using hj)
        rw [ins]
        by_cases hz : z.n = t.n
        · rw [if_pos hz]
          refine ⟨fun y hy => ?_, fun i j x y hij hi hj => ?_⟩
          · rcases List.mem_cons.1 hy with rfl | hy
            · exact .inl rfl
            · exact .inr (List.mem_cons_of_mem _ hy)
          · cases j with
            | zero => omega
            | succ j =>
              cases i with
              | zero =>
                simp at hi
                subst hi
                have := (rises_all h4 y (List.mem_of_getElem? (by simpa using hj))).2.2
                omega
              | succ i => exact R h4 i j x y (by omega) (by simpa using hi) (by simpa using hj)
        · rw [if_neg hz]
          by_cases hlt : t.n < z.n
          · rw [if_pos hlt]
            refine ⟨fun y hy => ?_, fun i j x y hij hi hj => ?_⟩
            · rcases List.mem_cons.1 hy with rfl | hy
              · exact .inl rfl
              · exact .inr hy
            · cases j with
              | zero => omega
              | succ j =>
                cases i with
                | zero =>
                  simp at hi
                  subst hi
                  have := (rises_all h y (List.mem_of_getElem? (l := z :: l) (by simpa using hj)))
                  rcases List.mem_cons.1 (List.mem_of_getElem? (l := z :: l) (i := j) (by simpa using hj)) with rfl | hy
                  · exact hlt
                  · have := (rises_all h4 y hy).2.2
                    omega
                | succ i => exact R h i j x y (by omega) (by simpa using hi) (by simpa using hj)
          · rw [if_neg hlt]
            refine ⟨fun y hy => ?_, fun i j x y hij hi hj => ?_⟩
            · rcases List.mem_cons.1 hy with rfl | hy
              · exact .inr List.mem_cons_self
              · rcases m1 y hy with h | h
                · exact .inl h
                · exact .inr (List.mem_cons_of_mem _ h)
            · cases j with
              | zero => omega
              | succ j =>
                cases i with
                | zero =>
                  simp at hi
                  subst hi
                  rcases m1 y (List.mem_of_getElem? (by simpa using hj)) with h | h
                  · omega
                  · have := (rises_all h4 y h).2.2
                    omega
                | succ i => exact m2 i j x y (by omega) (by simpa using hi) (by simpa using hj)
    exact N _ (U h).2
  rw [G, G, ins_comm hne]

/-! ### Check, Place -/
theorem checkV_iff (s b per : Int) (l : List Tx) : checkV s b per l = true ↔ (0 ≤ s ∧ s ≤ 255) ∧ (0 ≤ b ∧ b ≤ 4294967295) ∧ (1 ≤ per ∧ per ≤ 16) ∧ (l.length : Int) ≤ per ∧ risesV s b l = true := by
  unfold checkV inB
  simp only [Bool.and_eq_true, decide_eq_true_eq]
  constructor
  · rintro ⟨⟨⟨⟨h1, h2⟩, h3⟩, h4⟩, h5⟩; exact ⟨h1, h2, h3, h4, h5⟩
  · rintro ⟨h1, h2, h3, h4, h5⟩; exact ⟨⟨⟨⟨h1, h2⟩, h3⟩, h4⟩, h5⟩
theorem replV_zero {o t : Tx} {bump : Int} (h : (replV o t bump).2 = 0) : rz.raiseB o.t bump = true ∧ rz.raiseV o.t bump ≤ t.t ∧ replV o t bump = (slotV t - slotV o, 0) := by
  unfold replV at h ⊢
  cases h1 : (!rz.raiseB o.t bump || decide (t.t < rz.raiseV o.t bump)) with
  | true => rw [h1, cond_true] at h; cases h
  | false =>
    simp only [Bool.or_eq_false_iff, Bool.not_eq_false', decide_eq_false_iff_not] at h1
    exact ⟨h1.1, by omega, rfl⟩
theorem replV_not {o t : Tx} {bump : Int} (h : (replV o t bump).2 ≠ 0) : replV o t bump = (0, 4) := by
  unfold replV at h ⊢
  cases h1 : (!rz.raiseB o.t bump || decide (t.t < rz.raiseV o.t bump)) with
  | true => rfl
  | false => rw [h1, cond_false] at h; exact absurd rfl h
/-- Who is placed. -/
theorem placeV_ok {s b per : Int} {l : List Tx} {t : Tx} {bump : Int} (h : (placeV s b per l t bump).2 = 0) :
    checkV s b per l = true ∧ t.ok = true ∧ t.s = s ∧ b ≤ t.n ∧
    (((findV l t.n).2 = true ∧ (replV (findV l t.n).1 t bump).2 = 0 ∧ (placeV s b per l t bump).1 = slotV t - slotV (findV l t.n).1) ∨ ((findV l t.n).2 = false ∧ (l.length : Int) < per ∧ (placeV s b per l t bump).1 = slotV t)) := by
  unfold placeV at h ⊢
  cases h1 : (!(checkV s b per l && t.ok && (t.s == s) && inB bump 0 100)) with
  | true => rw [h1, cond_true] at h; cases h
  | false =>
    rw [h1, cond_false] at h
    rw [cond_false]
    simp only [Bool.not_eq_false', Bool.and_eq_true, beq_iff_eq] at h1
    obtain ⟨⟨⟨c1, c2⟩, c3⟩, _⟩ := h1
    cases h2 : decide (t.n < b) with
    | true => rw [h2, cond_true] at h; cases h
    | false =>
      rw [h2, cond_false] at h
      rw [cond_false]
      simp only [decide_eq_false_iff_not] at h2
      refine ⟨c1, c2, c3, by omega, ?_⟩
      cases h3 : (findV l t.n).2 with
      | true =>
        rw [h3, cond_true] at h
        rw [cond_true]
        exact .inl ⟨rfl, h, by rw [(replV_zero h).2.2]⟩
      | false =>
        rw [h3, cond_false] at h
        rw [cond_false]
        cases h4 : ((l.length : Int) == per) with
        | true => rw [h4, cond_true] at h; cases h
        | false =>
          have := ((checkV_iff s b per l).1 c1).2.2.2.1
          have h4 : (l.length : Int) ≠ per := by simpa using h4
          exact .inr ⟨rfl, by omega, rfl⟩
/-- Who is not. -/
theorem placeV_no {s b per : Int} {l : List Tx} {t : Tx} {bump : Int} (h : (placeV s b per l t bump).2 ≠ 0) :
    (placeV s b per l t bump).1 = 0 ∧ ((placeV s b per l t bump).2 = 1 ∨ ((placeV s b per l t bump).2 = 3 ∧ t.n < b) ∨ ((placeV s b per l t bump).2 = 4 ∧ (findV l t.n).2 = true) ∨ ((placeV s b per l t bump).2 = 5 ∧ (l.length : Int) = per)) := by
  unfold placeV at h ⊢
  cases h1 : (!(checkV s b per l && t.ok && (t.s == s) && inB bump 0 100)) with
  | true => simp
  | false =>
    rw [h1, cond_false] at h
    rw [cond_false]
    cases h2 : decide (t.n < b) with
    | true => simp at h2 ⊢; exact h2
    | false =>
      rw [h2, cond_false] at h
      rw [cond_false]
      cases h3 : (findV l t.n).2 with
      | true =>
        rw [h3, cond_true] at h
        rw [cond_true, replV_not h]
        simp
      | false =>
        rw [h3, cond_false] at h
        rw [cond_false]
        cases h4 : ((l.length : Int) == per) with
        | true => simp at h4 ⊢; exact h4
        | false => rw [h4, cond_false] at h; exact absurd rfl h
/-- What is placed, and put, may be; its slots grow by what was told. -/
theorem placed {s b per : Int} {l : List Tx} {t : Tx} {bump : Int} (h : (placeV s b per l t bump).2 = 0) : checkV s b per (putV t l) = true ∧ slotsL (putV t l) = slotsL l + (placeV s b per l t bump).1 := by
  obtain ⟨hc, h1, h2, h3, h4⟩ := placeV_ok h
  obtain ⟨c1, c2, c3, c4, c5⟩ := (checkV_iff s b per l).1 hc
  rw [putV_ins c5]
  rcases h4 with ⟨hf, hr, hp⟩ | ⟨hf, hl, hp⟩
  · exact ⟨(checkV_iff _ _ _ _).2 ⟨c1, c2, c3, by rw [ins_length_in c5 hf]; exact c4, ins_rises h1 h2 c5 h3⟩, by rw [hp, ins_slots_in c5 hf]; omega⟩
  · exact ⟨(checkV_iff _ _ _ _).2 ⟨c1, c2, c3, by have := ins_length (t := t) (l := l); omega, ins_rises h1 h2 c5 h3⟩, by rw [hp, ins_slots_out hf]⟩
theorem dropped {s b per : Int} {l : List Tx} {v : Int} (h : checkV s b per l = true) : checkV s b per (dropV v l) = true := by
  obtain ⟨c1, c2, c3, c4, c5⟩ := (checkV_iff s b per l).1 h
  refine (checkV_iff _ _ _ _).2 ⟨c1, c2, c3, ?_, rises_filter _ c5⟩
  have := List.length_filter_le (fun x : Tx => x.n != v) l
  unfold dropV
  omega
theorem rises_above {s b y : Int} {l : List Tx} (h : risesV s b l = true) : risesV s y (above y l) = true := by
  induction l generalizing b with
  | nil => rfl
  | cons x l ih =>
    obtain ⟨h1, h2, h3, h4⟩ := rises_cons h
    by_cases hx : x.n < y
    · have e2 : above y (x :: l) = above y l := List.filter_cons_of_neg (by simpa using hx)
      rw [e2]; exact ih h4
    · have e2 : above y (x :: l) = x :: above y l := List.filter_cons_of_pos (by simpa using hx)
      rw [e2]
      exact rises_mk h1 h2 (by omega) (rises_filter _ h4)
theorem advanced {s b per y : Int} {l : List Tx} (h : checkV s b per l = true) (ha : advV b y = 0) : checkV s y per (above y l) = true := by
  obtain ⟨c1, c2, c3, c4, c5⟩ := (checkV_iff s b per l).1 h
  have hy : 0 ≤ y ∧ y ≤ 4294967295 := by
    have := (advV_zero ha).1
    unfold inB at this
    simpa using this
  refine (checkV_iff _ _ _ _).2 ⟨c1, hy, c3, ?_, rises_above c5⟩
  have := List.length_filter_le (fun x : Tx => !decide (x.n < y)) l
  unfold above
  omega
theorem raised_more (t p : Int) (h : 0 ≤ t) (hp : 0 ≤ p) : t < rz.raised t p := by
  unfold rz.raised
  split <;> omega
theorem raise_more {o bump : Int} (h : rz.raiseB o bump = true) : o < rz.raiseV o bump := by
  unfold rz.raiseB at h
  have h := of_decide_eq_true h
  unfold rz.raiseV
  rw [if_pos h]
  unfold rz.RaiseOk rz.RaiseIn at h
  exact raised_more _ _ h.1.1 h.1.2.2.1

/-! ### Ready -/
theorem gap_no {b : Int} {k : Nat} {v : Int} (hb : 0 ≤ b) (hv : v ≤ 4294967295) (h : b ≤ v) : gap b k v = !decide (v = b + k) := by
  unfold gap
  rw [show decide (v < b) = false by simpa using h, cond_false]
  rw [show IntKind.i64.wrap (v - b) = v - b from by
    unfold IntKind.wrap
    simp [IntKind.signed, IntKind.bits]
    omega]
  by_cases h1 : v = b + k
  · rw [decide_eq_true h1]
    simp only [Bool.not_true, bne_eq_false_iff_eq]
    omega
  · rw [decide_eq_false h1]
    simp only [Bool.not_false, bne_iff_ne, ne_eq]
    omega
theorem ready_facts {s : Int} : ∀ {b : Int} {l : List Tx}, risesV s b l = true → ∀ (b0 : Int) (k : Nat), 0 ≤ b0 → b = b0 + k → ∃ j, srch (gap b0) l k = k + j ∧ j ≤ l.length ∧ (∀ (i : Nat) (x : Tx), i < j → l[i]? = some x → x.n = b0 + (k + i : Nat)) ∧ (∀ x ∈ l, x.n ≠ b0 + (k + j : Nat)) ∧ (∀ x, l[j]? = some x → x.n > b0 + (k + j : Nat))
  | b, [], _, b0, k, hb0, hb => ⟨0, rfl, Nat.le_refl _, fun i x hi => by omega, by simp, by simp⟩
  | b, x :: l, h, b0, k, hb0, hb => by
    obtain ⟨h1, h2, h3, h4⟩ := rises_cons h
    have hok : x.n ≤ 4294967295 := by
      unfold Tx.ok at h1
      have := of_decide_eq_true h1
      omega
    by_cases hx : x.n = b0 + k
    · obtain ⟨j, e, hj, f1, f2, f3⟩ := ready_facts h4 b0 (k + 1) hb0 (by omega)
      refine ⟨j + 1, ?_, by simp; omega, fun i y hi hy => ?_, fun y hy => ?_, fun y hy => ?_⟩
      · unfold srch
        rw [gap_no hb0 hok (by omega), decide_eq_true hx, Bool.not_true, cond_false, e]
        omega
      · cases i with
        | zero => simp at hy; subst hy; simpa using hx
        | succ i =>
          have := f1 i y (by omega) (by simpa using hy)
          rw [this]; congr 2; omega
      · rcases List.mem_cons.1 hy with rfl | hy
        · omega
        · have := f2 y hy
          intro e; apply this; rw [e]; congr 2; omega
      · have := f3 y (by simpa using hy)
        have e : (k + (j + 1) : Nat) = (k + 1 + j : Nat) := by omega
        rw [e]; exact this
    · refine ⟨0, ?_, Nat.zero_le _, fun i y hi => by omega, fun y hy => ?_, fun y hy => ?_⟩
      · unfold srch
        rw [gap_no hb0 hok (by omega), decide_eq_false hx]
        rfl
      · rcases List.mem_cons.1 hy with rfl | hy
        · simpa using hx
        · have := (rises_all h4 y hy).2.2
          omega
      · simp at hy
        subst hy
        simp only [Nat.add_zero]
        omega
end Go.Proofs.YtjejjgoagjkfdaaDoor.queue
