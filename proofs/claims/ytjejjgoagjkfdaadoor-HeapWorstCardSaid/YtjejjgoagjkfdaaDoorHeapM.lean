/- Layer 6 (heap): what follows: what a push and a pop keep, that a heap stays one, that an order is one. Plain lists; no memory. -/
import Derived.Test.YtjejjgoagjkfdaaDoorHeapK
namespace Go.Proofs.YtjejjgoagjkfdaaDoor.heap
open Go.RowKit Sx txn queue
set_option linter.unusedVariables false
set_option linter.unusedSimpArgs false
abbrev B (x y : Tx) : Prop := betterV x y = true
theorem nB {x y : Tx} : ¬ B x y ↔ betterV x y = false := by simp [B]
theorem B_irrefl (x : Tx) : ¬ B x x := nB.2 (ord.better_self x)
theorem B_trans {x y z : Tx} (h : B x y) (h' : B y z) : B x z := ord.better_trans _ _ _ h h'
theorem B_or {x z : Tx} (y : Tx) (h : B x z) : B x y ∨ B y z := ord.better_or _ y _ h
theorem nB_trans {x y z : Tx} (h : ¬ B x y) (h' : ¬ B y z) : ¬ B x z := fun h2 => (B_or y h2).elim h h'

/-! ### Swaps keep all -/
theorem nx_lt {l : List Tx} {i : Nat} (h : i < l.length) : nx l i = l[i] := by
  have := nx_get h
  rw [List.getElem?_eq_getElem h] at this
  exact (Option.some.inj this).symm
theorem swp_perm {l : List Tx} {i j : Nat} (hi : i < l.length) (hj : j < l.length) : (swp l i j).Perm l := by
  unfold swp
  rw [nx_lt hi, nx_lt hj]
  exact List.set_set_perm hi hj
theorem upGo_perm : ∀ (f : Nat) (l : List Tx) (i : Nat), i < l.length → (upGo f l i).Perm l
  | 0, l, i, _ => List.Perm.refl _
  | f + 1, l, i, hi => by
    unfold upGo
    split
    · exact List.Perm.refl _
    · split
      · exact (upGo_perm f _ _ (by rw [swp_length]; omega)).trans (swp_perm hi (by omega))
      · exact List.Perm.refl _
theorem downGo_perm : ∀ (f k : Nat) (l : List Tx) (i : Nat), k ≤ l.length → (i < k ∨ (i = 0 ∧ k = 0)) → (downGo f k l i).Perm l
  | 0, k, l, i, _, _ => List.Perm.refl _
  | f + 1, k, l, i, hk, hi => by
    unfold downGo
    split
    · exact List.Perm.refl _
    · rename_i hne
      have hc := (bestV_cases (l.take k) i).resolve_left hne
      have hlen : (l.take k).length = k := by rw [List.length_take]; omega
      exact (downGo_perm f k _ _ (by rw [swp_length]; exact hk) (.inl (by omega))).trans (swp_perm (by omega) (by omega))
theorem pushL_perm (l : List Tx) (t : Tx) : (pushL l t).Perm (l ++ [t]) := upGo_perm _ _ _ (by simp)
theorem popL_perm {l : List Tx} (h : 1 ≤ l.length) : (nx l 0 :: popL l).Perm l := by
  rcases (by omega : l.length = 1 ∨ 2 ≤ l.length) with h1 | h2
  · have hp : popL l = [] := List.eq_nil_of_length_eq_zero (by rw [popL_length]; omega)
    obtain ⟨x, rfl⟩ := List.length_eq_one_iff.1 h1
    rw [hp]
    exact List.Perm.refl _
  · rw [popL_eq l h2]
    have hN : (l.take (l.length - 1)).length = l.length - 1 := by rw [List.length_take]; omega
    refine ((downGo_perm _ _ _ 0 (by simp [hN]) (.inl (by omega))).cons _).trans ?_
    cases l with
    | nil => simp at h
    | cons x r =>
      have hr : r ≠ [] := by intro h; rw [h] at h2; simp at h2
      have hrl : 0 < r.length := List.length_pos_iff.2 hr
      have e1 : (x :: r).length - 1 = r.length - 1 + 1 := by simp; omega
      have e2 : nx (x :: r) ((x :: r).length - 1) = r.getLast hr := by
        rw [nx_lt (by simp), List.getLast_eq_getElem]
        simp only [e1, List.getElem_cons_succ]
      have e3 : nx (x :: r) 0 = x := rfl
      rw [e2, e3, e1, List.take_succ_cons, List.set_cons_zero]
      refine List.Perm.cons _ ?_
      have e4 : r.take (r.length - 1) = r.dropLast := List.dropLast_eq_take.symm
      rw [e4]
      have e5 := List.dropLast_concat_getLast hr
      conv => rhs; rw [← e5]
      exact (List.perm_append_singleton _ _).symm

/-! ### A heap stays one -/
theorem heapV_iff (l : List Tx) : heapV l = true ↔ ∀ i, 0 < i → i < l.length → ¬ B (nx l i) (nx l ((i - 1) / 2)) := by
  unfold heapV heapTo
  rw [List.all_eq_true]
  constructor
  · intro h i h0 hi
    have := h i (by simpa using hi)
    simp at this
    rcases this with h1 | h1
    · omega
    · exact nB.2 h1
  · intro h i hi
    simp at hi ⊢
    by_cases h0 : i = 0
    · exact .inl h0
    · exact .inr (nB.1 (h i (by omega) hi))
theorem heap_root {l : List Tx} (h : heapV l = true) : ∀ i, i < l.length → ¬ B (nx l i) (nx l 0) := by
  rw [heapV_iff] at h
  intro i
  induction i using Nat.strongRecOn with
  | ind i ih =>
    intro hi
    by_cases h0 : i = 0
    · subst h0; exact B_irrefl _
    · exact nB_trans (h i (by omega) hi) (ih ((i - 1) / 2) (by omega) (by omega))
theorem nx_swp {l : List Tx} {i j k : Nat} (hi : i < l.length) (hj : j < l.length) (hij : i ≠ j) : nx (swp l i j) k = if k = i then nx l j else if k = j then nx l i else nx l k := by
  unfold swp
  by_cases h1 : k = i
  · subst h1
    rw [if_pos rfl, nx_set_ne (Ne.symm hij), nx_set_self hi]
  · rw [if_neg h1]
    by_cases h2 : k = j
    · subst h2
      rw [if_pos rfl, nx_set_self (by simpa using hj)]
    · rw [if_neg h2, nx_set_ne (Ne.symm h2), nx_set_ne (Ne.symm h1)]
/-- All is a heap but for who rises from place i. -/
def UpOk (l : List Tx) (i : Nat) : Prop := (∀ j, 0 < j → j < l.length → j ≠ i → ¬ B (nx l j) (nx l ((j - 1) / 2))) ∧ ∀ j, 0 < j → j < l.length → (j - 1) / 2 = i → 0 < i → ¬ B (nx l j) (nx l ((i - 1) / 2))
theorem up_heap : ∀ (i : Nat) (l : List Tx), i < l.length → UpOk l i → heapV (upGo (i + 1) l i) = true := by
  intro i
  induction i using Nat.strongRecOn with
  | ind i ih =>
    intro l hi ⟨h1, h2⟩
    by_cases h0 : i = 0
    · rw [upGo_stop l i (.inl h0), heapV_iff]
      exact fun j hj hl => h1 j hj hl (by omega)
    · cases hb : betterV (nx l i) (nx l ((i - 1) / 2)) with
      | false =>
        rw [upGo_stop l i (.inr hb), heapV_iff]
        intro j hj hl
        by_cases hji : j = i
        · subst hji; exact nB.2 hb
        · exact h1 j hj hl hji
      | true =>
        rw [upGo_step l i (by omega) hb]
        have hp : (i - 1) / 2 < i := by omega
        have hpl : (i - 1) / 2 < l.length := by omega
        have N := fun k => nx_swp (l := l) (i := i) (j := (i - 1) / 2) (k := k) hi hpl (by omega)
        refine ih _ hp _ (by rw [swp_length]; exact hpl) ⟨fun j hj hl hjp => ?_, fun j hj hl hjp h0p => ?_⟩
        · rw [swp_length] at hl
          rw [N, N]
          by_cases hji : j = i
          · rw [if_pos hji, if_neg (by omega), if_pos (by rw [hji])]
            exact fun h => B_irrefl _ (B_trans hb h)
          · rw [if_neg hji, if_neg hjp]
            by_cases hq : (j - 1) / 2 = i
            · rw [if_pos hq]
              exact h2 j hj hl hq (by omega)
            · rw [if_neg hq]
              by_cases hq2 : (j - 1) / 2 = (i - 1) / 2
              · rw [if_pos hq2]
                refine fun h => h1 j hj hl hji ?_
                rw [hq2]
                exact B_trans h hb
              · rw [if_neg hq2]
                exact h1 j hj hl hji
        · rw [swp_length] at hl
          rw [N, N, if_neg (show ((i - 1) / 2 - 1) / 2 ≠ i by omega), if_neg (show ((i - 1) / 2 - 1) / 2 ≠ (i - 1) / 2 by omega)]
          have hpp := h1 ((i - 1) / 2) h0p hpl (by omega)
          by_cases hji : j = i
          · rw [if_pos hji]; exact hpp
          · rw [if_neg hji, if_neg (by omega)]
            have hj2 := h1 j hj hl hji
            rw [hjp] at hj2
            exact nB_trans hj2 hpp
theorem push_heap {l : List Tx} (t : Tx) (h : heapV l = true) : heapV (pushL l t) = true := by
  rw [heapV_iff] at h
  have e : pushL l t = upGo (l.length + 1) (l ++ [t]) l.length := by unfold pushL upL; simp
  rw [e]
  refine up_heap l.length _ (by simp) ⟨fun j hj hl hne => ?_, fun j hj hl hjp _ => ?_⟩
  · have hjl : j < l.length := by simp at hl; omega
    rw [nx_append hjl, nx_append (by omega)]
    exact h j hj hjl
  · simp at hl; omega
theorem make_heap (l : List Tx) : heapV (makeL l) = true := by
  rw [← rmk_make l]
  have : ∀ k, heapV (rmk l k) = true := by
    intro k
    induction k with
    | zero => rfl
    | succ k ih => exact push_heap _ ih
  exact this _
/-- All is a heap but for who sinks from place i. -/
def DownOk (l : List Tx) (i : Nat) : Prop := (∀ j, 0 < j → j < l.length → (j - 1) / 2 ≠ i → ¬ B (nx l j) (nx l ((j - 1) / 2))) ∧ ∀ j, 0 < j → j < l.length → (j - 1) / 2 = i → 0 < i → ¬ B (nx l j) (nx l ((i - 1) / 2))
theorem bestV_not {l : List Tx} {i : Nat} (h : bestV l i = i) : ∀ j, 0 < j → j < l.length → (j - 1) / 2 = i → ¬ B (nx l j) (nx l i) := by
  intro j hj hl hji
  have h1 : best1 l i = i := by
    unfold bestV at h
    split at h
    · omega
    · exact h
  rcases (by omega : j = 2 * i + 1 ∨ j = 2 * i + 2) with rfl | rfl
  · intro hb
    unfold best1 at h1
    rw [if_pos ⟨hl, hb⟩] at h1
    omega
  · intro hb
    unfold bestV at h
    rw [h1, if_pos ⟨hl, hb⟩] at h
    omega
theorem bestV_is {l : List Tx} {i b : Nat} (h : bestV l i = b) (hne : b ≠ i) : (b - 1) / 2 = i ∧ 0 < b ∧ b < l.length ∧ B (nx l b) (nx l i) ∧ ∀ j, 0 < j → j < l.length → (j - 1) / 2 = i → ¬ B (nx l j) (nx l b) := by
  have h1 : best1 l i = 2 * i + 1 ∧ 2 * i + 1 < l.length ∧ B (nx l (2 * i + 1)) (nx l i) ∨ best1 l i = i ∧ (2 * i + 1 < l.length → ¬ B (nx l (2 * i + 1)) (nx l i)) := by
    unfold best1
    split
    · rename_i h; exact .inl ⟨rfl, h⟩
    · rename_i h; exact .inr ⟨rfl, fun h1 h2 => h ⟨h1, h2⟩⟩
  unfold bestV at h
  split at h
  · rename_i h2
    subst h
    rcases h1 with ⟨e, h3, h4⟩ | ⟨e, h3⟩
    · rw [e] at h2
      refine ⟨by omega, by omega, h2.1, B_trans h2.2 h4, fun j hj hl hji => ?_⟩
      rcases (by omega : j = 2 * i + 1 ∨ j = 2 * i + 2) with rfl | rfl
      · exact fun h => B_irrefl _ (B_trans h2.2 h)
      · exact B_irrefl _
    · rw [e] at h2
      refine ⟨by omega, by omega, h2.1, h2.2, fun j hj hl hji => ?_⟩
      rcases (by omega : j = 2 * i + 1 ∨ j = 2 * i + 2) with rfl | rfl
      · exact fun h => h3 hl (B_trans h h2.2)
      · exact B_irrefl _
  · rename_i h2
    rcases h1 with ⟨e, h3, h4⟩ | ⟨e, h3⟩
    · rw [e] at h h2
      subst h
      refine ⟨by omega, by omega, h3, h4, fun j hj hl hji => ?_⟩
      rcases (by omega : j = 2 * i + 1 ∨ j = 2 * i + 2) with rfl | rfl
      · exact B_irrefl _
      · exact fun h => h2 ⟨hl, h⟩
    · exact absurd (h.symm.trans e) hne
theorem down_heap : ∀ (n i : Nat) (l : List Tx), l.length - i = n → i < l.length → DownOk l i → heapV (downGo (l.length - i) l.length l i) = true := by
  intro n
  induction n using Nat.strongRecOn with
  | ind n ih =>
    intro i l hn hi ⟨h1, h2⟩
    have htk : l.take l.length = l := List.take_length
    by_cases hb : bestV l i = i
    · rw [downGo_stop l.length l i (by rw [htk]; exact hb), heapV_iff]
      intro j hj hl
      by_cases hji : (j - 1) / 2 = i
      · rw [hji]; exact bestV_not hb j hj hl hji
      · exact h1 j hj hl hji
    · have hs := downGo_step l.length l i (by rw [htk]; exact hb)
      rw [htk] at hs
      rw [hs]
      obtain ⟨e1, e2, e3, e4, e5⟩ := bestV_is rfl hb
      generalize bestV l i = b at *
      have hls : (swp l i b).length = l.length := swp_length _ _ _
      have N := fun k => nx_swp (l := l) (i := i) (j := b) (k := k) hi e3 (by omega)
      have := ih (l.length - b) (by omega) b (swp l i b) (by rw [hls]) (by rw [hls]; exact e3) ⟨fun j hj hl hjb => ?_, fun j hj hl hjb _ => ?_⟩
      · rw [hls] at this; exact this
      · rw [hls] at hl
        rw [N, N, if_neg hjb]
        by_cases hji : (j - 1) / 2 = i
        · rw [if_pos hji, if_neg (show j ≠ i by omega)]
          by_cases hjb2 : j = b
          · rw [if_pos hjb2]; exact fun h => B_irrefl _ (B_trans h e4)
          · rw [if_neg hjb2]; exact e5 j hj hl hji
        · rw [if_neg hji]
          by_cases hj2 : j = i
          · rw [if_pos hj2]
            subst hj2
            exact h2 b (by omega) e3 e1 hj
          · rw [if_neg hj2, if_neg (show j ≠ b by rintro rfl; exact hji e1)]
            exact h1 j hj hl hji
      · rw [hls] at hl
        rw [N, N, e1, if_pos rfl, if_neg (show j ≠ i by omega), if_neg (show j ≠ b by omega)]
        have := h1 j hj hl (by omega)
        rw [hjb] at this
        exact this
theorem pop_heap {l : List Tx} (h : heapV l = true) : heapV (popL l) = true := by
  rcases (by omega : l.length ≤ 1 ∨ 2 ≤ l.length) with h1 | h2
  · have hp : popL l = [] := List.eq_nil_of_length_eq_zero (by rw [popL_length]; omega)
    rw [hp]; rfl
  · rw [heapV_iff] at h
    rw [popL_eq l h2]
    have hN : ((l.take (l.length - 1)).set 0 (nx l (l.length - 1))).length = l.length - 1 := by simp
    have := down_heap (l.length - 1) 0 ((l.take (l.length - 1)).set 0 (nx l (l.length - 1))) (by rw [hN]; rfl) (by rw [hN]; omega) ⟨fun j hj hl hj0 => ?_, fun j hj hl hj0 h0 => by omega⟩
    · rw [hN] at this; exact this
    · rw [hN] at hl
      rw [nx_set_ne (by omega), nx_set_ne (by omega), nx_take hl, nx_take (by omega)]
      exact h j hj (by omega)

/-! ### An order -/
theorem ordGo_perm : ∀ (f : Nat) (l : List Tx), l.length = f → (ordGo f l).Perm l
  | 0, l, h => by rw [List.eq_nil_of_length_eq_zero h]; exact List.Perm.refl _
  | f + 1, l, h => by
    unfold ordGo
    have hp := popL_length l
    exact ((ordGo_perm f (popL l) (by omega)).cons _).trans (popL_perm (by omega))
theorem makeL_perm (l : List Tx) : (makeL l).Perm l := by
  have : ∀ k, k ≤ l.length → (makeTo l k).Perm l := by
    intro k
    induction k with
    | zero => intro _; exact List.Perm.refl _
    | succ k ih =>
      intro hk
      unfold makeTo upL
      exact (upGo_perm _ _ _ (by rw [makeTo_length]; omega)).trans (ih (by omega))
  exact this _ (Nat.le_refl _)
theorem ordL_perm (l : List Tx) : (ordL l).Perm l := (ordGo_perm _ _ (makeL_length l)).trans (makeL_perm l)
theorem ordGo_sorted : ∀ (f : Nat) (l : List Tx), l.length = f → heapV l = true → (ordGo f l).Pairwise fun x y => ¬ B y x
  | 0, l, _, _ => List.Pairwise.nil
  | f + 1, l, h, hh => by
    unfold ordGo
    have hp := popL_length l
    refine List.Pairwise.cons (fun y hy => ?_) (ordGo_sorted f (popL l) (by omega) (pop_heap hh))
    have hy1 := (ordGo_perm f (popL l) (by omega)).mem_iff.1 hy
    have hy2 : y ∈ l := popL_mem (by intro h0; rw [h0] at h; simp at h) y hy1
    obtain ⟨k, hk, rfl⟩ := List.getElem_of_mem hy2
    rw [← nx_lt hk]
    exact heap_root hh k hk
theorem ordL_sorted (l : List Tx) : (ordL l).Pairwise fun x y => ¬ B y x := ordGo_sorted _ _ (makeL_length l) (make_heap l)
theorem worst_all {l : List Tx} (h : 0 < l.length) : (∀ x ∈ l, ¬ B (nx l (worstTo l l.length)) x) ∧ ∀ j, j < worstTo l l.length → B (nx l j) (nx l (worstTo l l.length)) := by
  obtain ⟨h1, h2⟩ := worstTo_none l l.length h
  have hlt := worstTo_lt l l.length
  rw [noneTo_iff] at h1
  refine ⟨fun x hx => ?_, fun j hj => ?_⟩
  · obtain ⟨k, hk, rfl⟩ := List.getElem_of_mem hx
    rw [← nx_lt hk]
    exact nB.2 (h1 k hk)
  · have h3 := h2 j hj
    unfold noneTo at h3
    rw [List.all_eq_false] at h3
    obtain ⟨k, hk, hb⟩ := h3
    have hb : B (nx l j) (nx l k) := by simpa using hb
    rcases B_or (nx l (worstTo l l.length)) hb with h | h
    · exact h
    · exact absurd h (nB.2 (h1 k (by simpa using hk)))
end Go.Proofs.YtjejjgoagjkfdaaDoor.heap
