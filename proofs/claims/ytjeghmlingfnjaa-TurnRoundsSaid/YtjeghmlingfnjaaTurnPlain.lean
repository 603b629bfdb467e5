/- Whose turn it is, in plain words: who may, in order; round from some place on; the next one; no condition. -/
import Derived.KernelRfl
namespace Go.Proofs.Ytjeghmlingfnjaa.turn
set_option linter.unusedVariables false
def on (bs : List Bool) (i : Nat) : Bool := bs[i]?.getD false
def lo (bs : List Bool) (f : Nat) : List Nat := (List.range f).filter (on bs)
def hi (bs : List Bool) (f : Nat) : List Nat := (List.range' f (bs.length - f)).filter (on bs)
def ups (bs : List Bool) : List Nat := lo bs bs.length
def ord (bs : List Bool) (f : Nat) : List Nat := hi bs f ++ lo bs f
def sq (bs : List Bool) (f k : Nat) : List Nat := ((List.range k).map fun s => (f + s) % bs.length).filter (on bs)
def frm (bs : List Bool) (last : Int) : Nat := if 0 ≤ last ∧ last < bs.length then last.toNat + 1 else 0
theorem frm_le (bs : List Bool) (last : Int) : frm bs last ≤ bs.length := by unfold frm; split <;> omega
theorem lo_succ (bs : List Bool) (f : Nat) : lo bs (f + 1) = if on bs f then lo bs f ++ [f] else lo bs f := by
  unfold lo
  rw [List.range_succ, List.filter_append]
  cases h : on bs f <;> simp [h]
theorem hi_at (bs : List Bool) (f : Nat) (h : f < bs.length) : hi bs f = if on bs f then f :: hi bs (f + 1) else hi bs (f + 1) := by
  unfold hi
  rw [show bs.length - f = (bs.length - (f + 1)) + 1 from by omega, List.range'_succ]
  cases h : on bs f <;> simp [h]
theorem hi_end (bs : List Bool) (f : Nat) (h : bs.length ≤ f) : hi bs f = [] := by
  unfold hi
  rw [show bs.length - f = 0 from by omega]
  rfl
theorem lo_hi (bs : List Bool) (f : Nat) (h : f ≤ bs.length) : ups bs = lo bs f ++ hi bs f := by
  unfold ups lo hi
  rw [← List.filter_append]
  congr 1
  rw [List.range_eq_range', List.range_eq_range']
  have := @List.range'_append_1 0 f (bs.length - f)
  rw [show 0 + f = f from by omega, show f + (bs.length - f) = bs.length from by omega] at this
  exact this.symm
theorem sq_succ (bs : List Bool) (f k : Nat) : sq bs f (k + 1) = if on bs ((f + k) % bs.length) then sq bs f k ++ [(f + k) % bs.length] else sq bs f k := by
  unfold sq
  rw [List.range_succ, List.map_append, List.filter_append]
  cases h : on bs ((f + k) % bs.length) <;> simp [h]
theorem sq_all (bs : List Bool) (f : Nat) (h : f ≤ bs.length) : sq bs f bs.length = ord bs f := by
  unfold sq ord hi lo
  rw [← List.filter_append]
  congr 1
  apply List.ext_getElem
  · simp; omega
  · intro i h1 h2
    simp only [List.getElem_map, List.getElem_range]
    simp at h1
    rw [List.getElem_append]
    split
    · rename_i hi
      simp at hi
      simp
      exact Nat.mod_eq_of_lt (by omega)
    · rename_i hi
      simp at hi
      simp
      rw [Nat.mod_eq_sub_mod (by omega)]
      rw [Nat.mod_eq_of_lt (by omega)]
      omega
theorem ord_length (bs : List Bool) (f : Nat) (h : f ≤ bs.length) : (ord bs f).length = (ups bs).length := by rw [lo_hi bs f h]; simp [ord]; omega
theorem mem_ups {bs : List Bool} {x : Nat} : x ∈ ups bs ↔ x < bs.length ∧ on bs x = true := by simp [ups, lo]
theorem mem_ord {bs : List Bool} {f x : Nat} (h : f ≤ bs.length) : x ∈ ord bs f ↔ x < bs.length ∧ on bs x = true := by
  rw [← mem_ups, lo_hi bs f h]
  simp [ord, or_comm]
theorem ups_nodup (bs : List Bool) : (ups bs).Nodup := List.Nodup.sublist List.filter_sublist List.nodup_range
theorem ord_nodup (bs : List Bool) (f : Nat) (h : f ≤ bs.length) : (ord bs f).Nodup := by
  have := ups_nodup bs
  rw [lo_hi bs f h] at this
  exact (List.perm_append_comm.nodup_iff).1 this
theorem ups_rise (bs : List Bool) : (ups bs).Pairwise (· < ·) := List.Pairwise.sublist List.filter_sublist List.pairwise_lt_range
theorem ups_le (bs : List Bool) : (ups bs).length ≤ bs.length := by
  have := List.length_filter_le (on bs) (List.range bs.length)
  simpa [ups, lo] using this
/-- Where one stands among those who may. -/
theorem split_at {bs : List Bool} {q x : Nat} (h : (ups bs)[q]? = some x) : x < bs.length ∧ on bs x = true ∧ lo bs (x + 1) = (ups bs).take (q + 1) ∧ hi bs (x + 1) = (ups bs).drop (q + 1) := by
  obtain ⟨hx, ho⟩ := mem_ups.1 (List.mem_of_getElem? h)
  have e : ups bs = lo bs x ++ x :: hi bs (x + 1) := by rw [lo_hi bs x (by omega), hi_at bs x hx, if_pos ho]
  have hq : q = (lo bs x).length := by
    have hn := ups_nodup bs
    have h2 : (ups bs)[(lo bs x).length]? = some x := by rw [e]; simp
    obtain ⟨h3, h4⟩ := List.getElem?_eq_some_iff.1 h
    obtain ⟨h5, h6⟩ := List.getElem?_eq_some_iff.1 h2
    exact (List.getElem_inj hn).1 (h4.trans h6.symm)
  refine ⟨hx, ho, ?_, ?_⟩
  · rw [lo_succ, if_pos ho, e, hq]
    rw [show lo bs x ++ x :: hi bs (x + 1) = (lo bs x ++ [x]) ++ hi bs (x + 1) from by simp]
    rw [List.take_append_of_le_length (by simp)]
    rw [List.take_of_length_le (by simp)]
  · rw [e, hq]
    rw [show lo bs x ++ x :: hi bs (x + 1) = (lo bs x ++ [x]) ++ hi bs (x + 1) from by simp]
    rw [List.drop_append_of_le_length (by simp)]
    rw [List.drop_of_length_le (by simp)]
    rfl
def oi (o : Option Nat) : Int := match o with | some i => i | none => -1
def nxt (bs : List Bool) (last : Int) : Int := oi (ord bs (frm bs last)).head?
def pck (bs : List Bool) (n : Int) : Int := if n < 0 then -1 else oi (ups bs)[n.toNat % (ups bs).length]?
def rnds (bs : List Bool) (last n : Int) : List Int := if ups bs = [] then [] else (List.range (min n 1000).toNat).map fun j => oi (ord bs (frm bs last))[j % (ups bs).length]?
theorem ord_get {bs : List Bool} {f j : Nat} (h : f ≤ bs.length) (hj : j < (ups bs).length) : (ord bs f)[j]? = (ups bs)[((lo bs f).length + j) % (ups bs).length]? := by
  have e := lo_hi bs f h
  have el : (ups bs).length = (lo bs f).length + (hi bs f).length := by rw [e]; simp
  unfold ord
  rcases Nat.lt_or_ge j (hi bs f).length with h1 | h1
  · rw [List.getElem?_append_left h1, Nat.mod_eq_of_lt (by omega), e, List.getElem?_append_right (by omega)]
    congr 1
    omega
  · rw [List.getElem?_append_right h1, Nat.mod_eq_sub_mod (by omega), Nat.mod_eq_of_lt (by omega), el, e, List.getElem?_append_left (by omega)]
    congr 1
    omega
theorem nxt_ups {bs : List Bool} {q x : Nat} (h : (ups bs)[q]? = some x) : nxt bs x = oi (ups bs)[(q + 1) % (ups bs).length]? := by
  obtain ⟨hx, ho, h1, h2⟩ := split_at h
  have hq := (List.getElem?_eq_some_iff.1 h).1
  have hf : frm bs x = x + 1 := by unfold frm; rw [if_pos (by omega)]; omega
  unfold nxt ord
  rw [hf, h1, h2]
  congr 1
  rw [List.head?_eq_getElem?]
  rcases Nat.lt_or_ge (q + 1) (ups bs).length with h3 | h3
  · rw [Nat.mod_eq_of_lt h3, List.getElem?_append_left (by simp; omega), List.getElem?_drop]
  · have e : q + 1 = (ups bs).length := by omega
    rw [e, Nat.mod_self, List.drop_length, List.take_length]
    rfl
/-- Behind one of a round comes the next one of it. -/
theorem nxt_ord {bs : List Bool} {f j x : Nat} (h : f ≤ bs.length) (hx : (ord bs f)[j]? = some x) : nxt bs x = oi (ord bs f)[(j + 1) % (ups bs).length]? := by
  have hj : j < (ups bs).length := by rw [← ord_length bs f h]; exact (List.getElem?_eq_some_iff.1 hx).1
  rw [ord_get h hj] at hx
  rw [nxt_ups hx, ord_get h (Nat.mod_lt _ (by omega))]
  congr 2
  rw [Nat.mod_add_mod, Nat.add_mod_mod, Nat.add_assoc]
theorem nxt_first {bs : List Bool} {f : Nat} (h : f ≤ bs.length) (hne : ups bs ≠ []) : ∃ s, s < bs.length ∧ (ord bs f).head? = some ((f + s) % bs.length) ∧ on bs ((f + s) % bs.length) = true ∧ ∀ r, r < s → on bs ((f + r) % bs.length) = false := by
  rw [← sq_all bs f h]
  unfold sq
  rw [List.head?_filter, List.find?_map]
  cases hf : (List.range bs.length).find? (on bs ∘ fun s => (f + s) % bs.length) with
  | none =>
    exfalso
    rw [List.find?_eq_none] at hf
    apply hne
    apply List.eq_nil_of_length_eq_zero
    rw [← ord_length bs f h, ← sq_all bs f h]
    unfold sq
    rw [List.filter_eq_nil_iff.2]
    · rfl
    · intro x hx
      obtain ⟨s, hs, rfl⟩ := List.mem_map.1 hx
      exact hf s hs
  | some s =>
    rw [List.find?_range_eq_some] at hf
    obtain ⟨h1, h2, h3⟩ := hf
    refine ⟨s, by simpa using h2, rfl, by simpa using h1, fun r hr => ?_⟩
    simpa using h3 r hr
theorem ups_set {bs : List Bool} {i : Nat} (hi' : i < bs.length) (ho : on bs i = false) : (ups (bs.set i true)).length = (ups bs).length + 1 := by
  have hl : (bs.set i true).length = bs.length := by simp
  have h1 : on (bs.set i true) i = true := by simp [on, hi']
  have h2 : ∀ j, j ≠ i → on (bs.set i true) j = on bs j := fun j hj => by
    unfold on
    rw [List.getElem?_set]
    rw [if_neg (fun e => hj e.symm)]
  have e1 : lo (bs.set i true) i = lo bs i := by
    unfold lo
    apply List.filter_congr
    intro x hx
    exact h2 x (by simp at hx; omega)
  have e2 : hi (bs.set i true) (i + 1) = hi bs (i + 1) := by
    unfold hi
    rw [hl]
    apply List.filter_congr
    intro x hx
    simp [List.mem_range'] at hx
    exact h2 x (by omega)
  rw [lo_hi (bs.set i true) i (by omega), hi_at (bs.set i true) i (by omega), if_pos h1, e1, e2, lo_hi bs i (by omega), hi_at bs i hi', if_neg (by simp [ho])]
  simp
  omega
theorem sq_prefix (bs : List Bool) (f k : Nat) : ∀ d, sq bs f k <+: sq bs f (k + d)
  | 0 => List.prefix_refl _
  | d + 1 => by
    have h := sq_prefix bs f k d
    rw [show k + (d + 1) = (k + d) + 1 from rfl, sq_succ]
    split
    · exact h.trans (List.prefix_append _ _)
    · exact h
/-- What has come when a round is left is the beginning of the round. -/
theorem sq_stop {bs : List Bool} {f k x : Nat} (hf : f ≤ bs.length) (hk : k < bs.length) (hx : x = (f + k) % bs.length) (ho : on bs x = true) : sq bs f k ++ [x] <+: ord bs f := by
  have h := sq_prefix bs f (k + 1) (bs.length - (k + 1))
  rw [show k + 1 + (bs.length - (k + 1)) = bs.length from by omega, sq_all bs f hf, sq_succ, ← hx, if_pos ho] at h
  exact h
end Go.Proofs.Ytjeghmlingfnjaa.turn
