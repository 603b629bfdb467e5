/- Layer 14 (feed): what follows. -/
import Derived.Test.YtlfiaebnknhmbaaFeedOpen
namespace Go.Proofs.Ytlfiaebnknhmbaa.feed
open Go.RowKit Sx
set_option linter.unusedVariables false
set_option linter.unusedSimpArgs false
theorem tellV_fits {r : Int} : ∀ {l : List Ev} {q : List Ev × Int}, Fits q.2 → Fits (tellV r q l).2
  | [], q, h => h
  | x :: l, q, h => tellV_fits (l := l) (tell1_fits (x := x) h)
theorem tellV_app (r : Int) (q : List Ev × Int) (l k : List Ev) : tellV r q (l ++ k) = tellV r (tellV r q l) k := List.foldl_append
theorem tell1_ge (r : Int) (q : List Ev × Int) (x : Ev) : q.1.length ≤ (tell1 r q x).1.length := by
  unfold tell1
  split
  · simp
  · exact Nat.le_refl _
theorem tellV_ge (r : Int) : ∀ (l : List Ev) (q : List Ev × Int), q.1.length ≤ (tellV r q l).1.length
  | [], q => Nat.le_refl _
  | x :: l, q => Nat.le_trans (tell1_ge r q x) (tellV_ge r l (tell1 r q x))
theorem tell_lost (r : Int) (it : List Ev) : ∀ (es : List Ev) (k : Int), 1 ≤ k → k + es.length ≤ 1099511627776 → tellV r (it, k) es = (it, k + es.length)
  | [], k, h1, h2 => by simp [tellV]
  | x :: es, k, h1, h2 => by
    rw [List.length_cons] at h2 ⊢
    have e1 : tell1 r (it, k) x = (it, k + 1) := by
      unfold tell1
      rw [if_neg (by simp; omega)]
      congr 1
      simp only []
      omega
    have e2 : tellV r (it, k) (x :: es) = tellV r (tell1 r (it, k) x) es := rfl
    rw [e2, e1, tell_lost r it es (k + 1) (by omega) (by omega)]
    congr 1
    omega
theorem tell_zero (r : Int) : ∀ (es it : List Ev), es.length ≤ 1099511627776 → tellV r (it, 0) es = (it ++ es.take (r - it.length).toNat, max 0 ((es.length : Int) - (max 0 (r - it.length))))
  | [], it, h => by
    simp only [tellV, List.foldl_nil, List.take_nil, List.append_nil, List.length_nil]
    congr 1
    omega
  | x :: es, it, h => by
    rw [List.length_cons] at h ⊢
    have e2 : tellV r (it, 0) (x :: es) = tellV r (tell1 r (it, 0) x) es := rfl
    by_cases hr : (it.length : Int) < r
    · have e1 : tell1 r (it, 0) x = (it ++ [x], 0) := by unfold tell1; rw [if_pos ⟨rfl, hr⟩]
      obtain ⟨j, hj⟩ : ∃ j : Nat, (r - it.length).toNat = j + 1 := ⟨(r - it.length).toNat - 1, by omega⟩
      rw [e2, e1, tell_zero r es (it ++ [x]) (by omega), hj, List.take_succ_cons, List.append_assoc]
      rw [show (it ++ [x]).length = it.length + 1 by simp, show (r - ((it.length + 1 : Nat) : Int)).toNat = j by omega]
      refine Prod.ext rfl ?_
      simp only []
      omega
    · have e1 : tell1 r (it, 0) x = (it, 1) := by unfold tell1; rw [if_neg (by simp; omega)]; rfl
      rw [e2, e1, tell_lost r it es 1 (by omega) (by omega), show (r - it.length).toNat = 0 by omega]
      refine Prod.ext (by simp) ?_
      simp only []
      omega
theorem min2_run (tys : Array TypeId) (ty : TypeId) (x y : Int) (w : World) : (do pure (Next.value (← Builtin.min_ tys ty (List.toArray [.int .i64 x, .int .i64 y]))) : Sem Next).run Try.prog w = .ok (.value (.int .i64 (min x y))) w := by
  have h : (if y < x then y else x) = min x y := by split <;> omega
  simp [Builtin.min_, Builtin.min2, h]
theorem max2_run (tys : Array TypeId) (ty : TypeId) (x y : Int) (w : World) : (do pure (Next.value (← Builtin.max_ tys ty (List.toArray [.int .i64 x, .int .i64 y]))) : Sem Next).run Try.prog w = .ok (.value (.int .i64 (max x y))) w := by
  have h : (if x < y then y else x) = max x y := by split <;> omega
  simp [Builtin.max_, Builtin.max2, h]
theorem at3 {w : World} {a b c : Option Addr} {xs ys zs : List Value} (h : At w a xs) (k : At w b ys) (j : At w c zs) : ∀ φ ∈ [rowF a xs, rowF b ys, rowF c zs], ∀ g, φ.g = some g → ∃ o, w.heap[g]? = some o ∧ φ.holds o := by
  intro φ hφ
  simp only [List.mem_cons, List.not_mem_nil, or_false] at hφ
  rcases hφ with rfl | rfl | rfl
  · exact h
  · exact k
  · exact j
theorem stV_more {x : Ev} {l : List Ev} (h : stV x l ≠ 0) (k : List Ev) : stV x (l ++ k) = stV x l := by
  unfold stV at *
  by_cases hk : x.k = 4
  · rw [if_pos hk] at h ⊢
    rw [if_pos hk]
    by_cases h1 : x.m < 1 ∨ (l.length : Int) < x.m
    · rw [if_pos h1] at h; exact absurd rfl h
    · rw [if_neg h1, if_neg (by rw [List.length_append]; omega)]
  · rw [if_neg hk] at h ⊢
    rw [if_neg hk]
    cases l with
    | nil => exact absurd rfl h
    | cons y l => rfl
theorem coversV_cons (x : Ev) (t l : List Ev) : coversV (x :: t) l = if stV x l = 0 then false else coversV t (l.drop (stV x l)) := rfl
theorem covers_split : ∀ (a : List Ev) {l : List Ev} (b k : List Ev), coversV a l = true → coversV (a ++ b) (l ++ k) = coversV b k
  | [], l, b, k, h => by
    unfold coversV at h
    have h0 : l = [] := List.eq_nil_of_length_eq_zero (by simpa using h)
    subst h0
    rfl
  | x :: a, l, b, k, h => by
    have h1 : stV x l ≠ 0 := fun e => by unfold coversV at h; rw [if_pos e] at h; cases h
    have h2 : coversV a (l.drop (stV x l)) = true := by unfold coversV at h; rwa [if_neg h1] at h
    have h3 := covers_split a b k h2
    have h4 := stV_le x l
    rw [List.cons_append, coversV_cons, stV_more h1, if_neg h1, List.drop_append_of_le_length h4]
    exact h3
theorem covers_lag (es : List Ev) : coversV [lag es.length] es = decide (0 < es.length) := by
  have e : stV (lag es.length) es = es.length := by
    unfold stV
    show (if (4 : Int) = 4 then (if (es.length : Int) < 1 ∨ (es.length : Int) < es.length then 0 else (es.length : Int).toNat) else _) = _
    rw [if_pos rfl]
    split <;> omega
  rw [coversV_cons, e, List.drop_length]
  by_cases h : es.length = 0
  · rw [if_pos h]; simp [h]
  · rw [if_neg h]; simp [coversV]; omega
theorem length_tailV (q : Int) : ((tailV q).length : Int) = if 0 < q then 1 else 0 := by unfold tailV; split <;> rfl
end Go.Proofs.Ytlfiaebnknhmbaa.feed
