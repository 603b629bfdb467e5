/- Layer 12 (greedy): what follows of a block, plainly. -/
import Derived.Test.YtohikebnlamnnaaDoorGreedyAll
namespace Go.Proofs.YtohikebnlamnnaaDoor.greedy
open Go.RowKit Sx txn queue
set_option linter.unusedVariables false
set_option linter.unusedSimpArgs false
def sumG (l : List Tx) : Int := (l.map (·.g)).sum
theorem sumG_cons (t : Tx) (l : List Tx) : sumG (t :: l) = t.g + sumG l := by unfold sumG; simp
theorem sm_take (l : List Tx) (k : Nat) (hk : k ≤ l.length) : satd.sm (gasF l) k = sumG (l.take k) := by
  induction k with
  | zero => rfl
  | succ k ih =>
    have hx := nx_get (l := l) (i := k) (by omega)
    show satd.sm (gasF l) k + gasF l k = _
    rw [ih (by omega), List.take_add_one, hx]
    unfold sumG gasF
    simp
theorem totG_le {l : List Tx} {g : Int} (hg : 0 ≤ g) (h : sumG l ≤ g) : totG l ≤ g := by
  unfold totG satd.totY
  split
  · rw [sm_take l l.length (Nat.le_refl _), List.take_length]; exact h
  · exact hg
/-- All that is left costs something. -/
def costs (left : List (List Tx)) : Prop := ∀ r ∈ left, ∀ t ∈ r, 1 ≤ t.g ∧ t.g ≤ 1073741824
theorem costs_set {left : List (List Tx)} (h : costs left) {i : Nat} {r : List Tx} (hr : ∀ t ∈ r, 1 ≤ t.g ∧ t.g ≤ 1073741824) : costs (left.set i r) := by
  intro z hz
  rcases List.mem_or_eq_of_mem_set hz with hz | rfl
  · exact h z hz
  · exact hr
theorem costs_get {left : List (List Tx)} (h : costs left) {i : Nat} {t : Tx} {r : List Tx} (hr : left.getD i [] = t :: r) : ∀ x ∈ t :: r, 1 ≤ x.g ∧ x.g ≤ 1073741824 := by
  have hk := getD_lt hr
  refine h _ ?_
  rw [← hr, List.getD_eq_getElem?_getD, List.getElem?_eq_getElem hk]
  exact List.getElem_mem hk
/-- A step of a block: what becomes of what is left. -/
theorem tpl_ind {motive : List (List Tx) → Int → Prop} (hnil : ∀ left gas, bestI left left.length = none → motive left gas)
    (hskip : ∀ left gas i t r, bestI left left.length = some (i, t) → left.getD i [] = t :: r → gas < t.g → motive (left.set i []) gas → motive left gas)
    (htake : ∀ left gas i t r, bestI left left.length = some (i, t) → left.getD i [] = t :: r → ¬ gas < t.g → motive (left.set i r) (gas - t.g) → motive left gas) : ∀ (n : Nat) (left : List (List Tx)) (gas : Int), sizeL left ≤ n → motive left gas := by
  intro n
  induction n with
  | zero =>
    intro left gas hn
    refine hnil left gas ?_
    cases hb : bestI left left.length with
    | none => rfl
    | some q =>
      obtain ⟨_, r, hr⟩ := bestI_some hb
      have := size_nil hr
      omega
  | succ n ih =>
    intro left gas hn
    cases hb : bestI left left.length with
    | none => exact hnil left gas hb
    | some q =>
      obtain ⟨i, t⟩ := q
      obtain ⟨_, r, hr⟩ := bestI_some hb
      have h1 : sizeL (left.set i []) < sizeL left := size_nil hr
      have h2 : sizeL (left.set i r) < sizeL left := by
        have := size_tail hr
        rw [show left.getD i [] = t :: r from hr] at this
        exact this
      by_cases hg : gas < t.g
      · exact hskip left gas i t r hb hr hg (ih _ _ (by omega))
      · exact htake left gas i t r hb hr hg (ih _ _ (by omega))
theorem tpl_skip {left : List (List Tx)} {gas : Int} {i : Nat} {t : Tx} (hb : bestI left left.length = some (i, t)) (hg : gas < t.g) : tplV left gas = tplV (left.set i []) gas := by
  rw [tplV_some hb, if_pos hg]
theorem tpl_take {left : List (List Tx)} {gas : Int} {i : Nat} {t : Tx} {r : List Tx} (hb : bestI left left.length = some (i, t)) (hr : left.getD i [] = t :: r) (hg : ¬ gas < t.g) : tplV left gas = t :: tplV (left.set i r) (gas - t.g) := by
  rw [tplV_some hb, if_neg hg, hr]
  rfl
theorem tpl_gas (left : List (List Tx)) (gas : Int) (h0 : 0 ≤ gas) : sumG (tplV left gas) ≤ gas := by
  refine tpl_ind (motive := fun left gas => 0 ≤ gas → sumG (tplV left gas) ≤ gas) ?_ ?_ ?_ _ left gas (Nat.le_refl _) h0
  · intro left gas hb h0; rw [tplV_none hb]; exact h0
  · intro left gas i t r hb hr hg ih h0; rw [tpl_skip hb hg]; exact ih h0
  · intro left gas i t r hb hr hg ih h0
    rw [tpl_take hb hr hg, sumG_cons]
    have := ih (by omega)
    omega
theorem tpl_mem (left : List (List Tx)) (gas : Int) : ∀ t ∈ tplV left gas, ∃ r ∈ left, t ∈ r := by
  refine tpl_ind (motive := fun left gas => ∀ t ∈ tplV left gas, ∃ r ∈ left, t ∈ r) ?_ ?_ ?_ _ left gas (Nat.le_refl _)
  · intro left gas hb t ht; rw [tplV_none hb] at ht; cases ht
  · intro left gas i t r hb hr hg ih x hx
    rw [tpl_skip hb hg] at hx
    obtain ⟨z, hz, hxz⟩ := ih x hx
    rcases List.mem_or_eq_of_mem_set hz with hz | rfl
    · exact ⟨z, hz, hxz⟩
    · cases hxz
  · intro left gas i t r hb hr hg ih x hx
    have hm : left.getD i [] ∈ left := by
      have hk := getD_lt hr
      rw [List.getD_eq_getElem?_getD, List.getElem?_eq_getElem hk]
      exact List.getElem_mem hk
    rw [tpl_take hb hr hg] at hx
    rcases List.mem_cons.1 hx with rfl | hx
    · exact ⟨_, hm, by rw [hr]; simp⟩
    · obtain ⟨z, hz, hxz⟩ := ih x hx
      rcases List.mem_or_eq_of_mem_set hz with hz | rfl
      · exact ⟨z, hz, hxz⟩
      · exact ⟨_, hm, by rw [hr]; simp [hxz]⟩
theorem bestI_best {left : List (List Tx)} {n : Nat} {q : Nat × Tx} (h : bestI left n = some q) : ∀ i, i < n → ∀ y r, left.getD i [] = y :: r → betterV y q.2 = false := by
  induction n generalizing q with
  | zero => intro i hi; omega
  | succ n ih =>
    rw [bestI_succ] at h
    intro i hi y r hy
    unfold bsS at h
    split at h
    · rename_i hr
      by_cases e : i = n
      · subst e; rw [hr] at hy; cases hy
      · exact ih h i (by omega) y r hy
    · rename_i t r' hr
      split at h
      · rename_i hb
        cases h
        by_cases e : i = n
        · subst e; rw [hr] at hy; cases hy; exact ord.better_self _
        · have := bestI_none.1 hb i (by omega); rw [this] at hy; cases hy
      · rename_i u hb
        split at h
        · rename_i hbt
          cases h
          by_cases e : i = n
          · subst e; rw [hr] at hy; cases hy; exact ord.better_self _
          · exact ord.better_not _ _ _ (ih hb i (by omega) y r hy) (ord.better_asym _ _ hbt)
        · rename_i hbt
          cases h
          by_cases e : i = n
          · subst e; rw [hr] at hy; cases hy; simpa using hbt
          · exact ih hb i (by omega) y r hy
/-- A block's first one is a head, and none of the heads that have room is better. -/
theorem tpl_first (left : List (List Tx)) (gas : Int) :
    (∀ i y r, left.getD i [] = y :: r → y.g ≤ gas → ∃ t T, tplV left gas = t :: T ∧ betterV y t = false) ∧ ∀ t T, tplV left gas = t :: T → ∃ i r, left.getD i [] = t :: r := by
  refine tpl_ind (motive := fun left gas => (∀ i y r, left.getD i [] = y :: r → y.g ≤ gas → ∃ t T, tplV left gas = t :: T ∧ betterV y t = false) ∧ ∀ t T, tplV left gas = t :: T → ∃ i r, left.getD i [] = t :: r) ?_ ?_ ?_ _ left gas (Nat.le_refl _)
  · intro left gas hb
    refine ⟨fun i y r hy _ => ?_, fun t T h => by rw [tplV_none hb] at h; cases h⟩
    have := bestI_none.1 hb i (getD_lt hy)
    rw [this] at hy; cases hy
  · intro left gas i t r hb hr hg ih
    have hk := getD_lt hr
    have hget : ∀ j, (left.set i []).getD j [] = if i = j then [] else left.getD j [] := fun j => by
      rw [List.getD_eq_getElem?_getD, List.getElem?_set, List.getD_eq_getElem?_getD]
      by_cases e : i = j
      · subst e; simp [hk]
      · simp [e]
    rw [tpl_skip hb hg]
    refine ⟨fun j y r' hy hyg => ?_, fun z T h => ?_⟩
    · by_cases e : i = j
      · subst e; rw [hr] at hy; cases hy; omega
      · exact ih.1 j y r' (by rw [hget, if_neg e]; exact hy) hyg
    · obtain ⟨j, r', h5⟩ := ih.2 z T h
      rw [hget] at h5
      split at h5
      · cases h5
      · exact ⟨j, r', h5⟩
  · intro left gas i t r hb hr hg ih
    rw [tpl_take hb hr hg]
    refine ⟨fun j y r' hy _ => ⟨t, _, rfl, bestI_best hb j (getD_lt hy) y r' hy⟩, fun z T h => ?_⟩
    cases h
    exact ⟨i, r, hr⟩
theorem hdsP_mem {P : List (Int × List Tx)} {t : Tx} : t ∈ hdsP P ↔ ∃ i r, (P.map (·.2)).getD i [] = t :: r := by
  unfold hdsP
  rw [List.mem_flatMap]
  constructor
  · rintro ⟨q, hq, ht⟩
    obtain ⟨i, hi⟩ := List.getElem?_of_mem hq
    cases hl : q.2 with
    | nil => rw [hl] at ht; cases ht
    | cons x r =>
      rw [hl] at ht
      simp at ht
      subst ht
      exact ⟨i, r, by rw [List.getD_eq_getElem?_getD, List.getElem?_map, hi]; exact hl⟩
  · rintro ⟨i, r, h⟩
    rw [List.getD_eq_getElem?_getD, List.getElem?_map] at h
    cases hi : P[i]? with
    | none => rw [hi] at h; cases h
    | some q =>
      rw [hi] at h
      exact ⟨q, List.mem_of_getElem? hi, by rw [show q.2 = t :: r from h]; simp⟩
theorem tmpl_heads (L : List Ac) (gas : Int) : (∀ y ∈ headsV L, y.g ≤ gas → ∃ t T, templateV L gas = t :: T ∧ betterV y t = false) ∧ ∀ t T, templateV L gas = t :: T → t ∈ headsV L := by
  have e : ((firstsV L).map lnOf).map (·.2) = (firstsV L).map fun x => lineV x.b x.l := by rw [List.map_map]; rfl
  obtain ⟨h1, h2⟩ := tpl_first ((firstsV L).map fun x => lineV x.b x.l) gas
  refine ⟨fun y hy hg => ?_, fun t T h => ?_⟩
  · obtain ⟨i, r, hi⟩ := hdsP_mem.1 hy
    rw [e] at hi
    exact h1 i y r hi hg
  · obtain ⟨i, r, hi⟩ := h2 t T h
    exact hdsP_mem.2 ⟨i, r, by rw [e]; exact hi⟩
theorem headsV_le (L : List Ac) : (headsV L).length ≤ L.length := by
  have h1 := hdsP_le ((firstsV L).map lnOf)
  have h2 := firstsV_le L L.length
  rw [List.take_length] at h2
  rw [List.length_map] at h1
  exact Nat.le_trans h1 h2
theorem tmpl_costs (L : List Ac) : costs ((firstsV L).map fun x => lineV x.b x.l) := by
  intro r hr t ht
  obtain ⟨x, _, rfl⟩ := List.mem_map.1 hr
  exact ok_gas (lineV_ok t ht)
theorem tmpl_none (L : List Ac) : templateV L 0 = [] := tplV_neg (Int.le_refl _) fun r hr t ht => (tmpl_costs L r hr t ht).1
end Go.Proofs.YtohikebnlamnnaaDoor.greedy
