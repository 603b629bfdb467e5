/- Layer 6 (heap): the document's Check, Push, below, Worst. -/
import Derived.Test.YtjejjgoagjkfdaaDoorHeapF
namespace Go.Proofs.YtjejjgoagjkfdaaDoor.heap
open Go.RowKit Sx txn queue
set_option linter.unusedVariables false
set_option linter.unusedSimpArgs false
theorem quo_ (x y : Operand) (k : Nat) (hk : k ≤ 1000000000) (w : World) : (do eqGuard .quo 3 x y (.int .i64 (k : Int)) (.int .i64 2); pure (Next.value (← binOp .quo 3 (.int .i64 (k : Int)) (.int .i64 2))) : Sem Next).run Tryd.prog w = .ok (.value (.int .i64 ((k / 2 : Nat) : Int))) w := by
  have h2 : Int.tdiv (k : Int) 2 = ((k / 2 : Nat) : Int) := by
    rw [Int.tdiv_eq_ediv_of_nonneg (by omega)]; rfl
  have h3 : IntKind.i64.wrap ((k / 2 : Nat) : Int) = ((k / 2 : Nat) : Int) := by
    unfold IntKind.wrap
    simp [IntKind.signed, IntKind.bits]
    omega
  have h4 : IntKind.i64.wrap ((k : Int) / 2) = (k : Int) / 2 := by simpa using h3
  simp [eqGuard, go_sem, h2, h4]
set_option maxHeartbeats 4000000 in
set_option maxRecDepth 100000 in
theorem rcheck_ (l : List Tx) (a : Option Addr) (n c : Nat) (w : World) (hM : Most w) (hs : Sl a n c) (hn : n = l.length) (hl : l.length ≤ 100000) (hd : ∀ x ∈ l, x.d.size ≤ maxLen) (hrow : At w (pt a n) (cellsL l)) :
    Calls Tryd.prog 45 (List.toArray [.slice a n c]) w fun e w' => e = .returned (.bool (heapV l)) ∧ Below w.heap.size w w' := by
  have hn63 := hs.le
  refine calls_of_exec env_ok Tryd.func45 rfl [(4, (line [0, 1, 2, 3, 4, 5, 6, 7, 8, 9, 10], []))] (schedQ_ok _ _ (by kernel_rfl)) [rowF (pt a n) (cellsL l)] (at1 hrow) ?_
  (conv => arg 5; whnf)
  refine loop_rule env_ok [(4, (line [0, 1, 2, 3, 4, 5, 6, 7, 8, 9, 10], []))] (schedQ_ok _ _ (by kernel_rfl)) (fun k : Nat => 1 ≤ k ∧ (k ≤ n ∨ k = 1) ∧ heapTo l k = true) (fun k => (⟨[], [], [rowF (pt a n) (cellsL l)]⟩, sl 21 [(0, .v (.slice a n c)), (2, .v (.bool false)), (3, .v (.int .i64 k))])) (fun k => n - k) 1 ⟨Nat.le_refl _, .inr rfl, by simp [heapTo]⟩ ⟨by repeat' first | exact trivial | refine ⟨.inl rfl, ?_⟩ | refine ⟨.inr rfl, ?_⟩, ⟨by repeat' first | exact trivial | refine ⟨.inl rfl, ?_⟩ | refine ⟨.inr rfl, ?_⟩, by repeat' first | exact trivial | refine ⟨.inl rfl, ?_⟩ | refine ⟨.inr rfl, ?_⟩, fun _ h => h⟩, rfl⟩ ?_
  rintro k ⟨hk1, hkn, hto⟩
  (conv => arg 5; whnf)
  refine wp_br (fun h1 => ?_) (fun h1 => ?_)
  · have hlt : k < n := by simp at h1; omega
    have hp : (k - 1) / 2 < n := by omega
    have hT := heapTo_succ l k
    have hBad := heapTo_bad (l := l) (k := k) (by omega) (by omega)
    have hx := nx_get (l := l) (i := k) (by omega)
    have hy := nx_get (l := l) (i := (k - 1) / 2) (by omega)
    have hdx := hd _ (nx_mem (l := l) (i := k) (by omega))
    have hdy := hd _ (nx_mem (l := l) (i := (k - 1) / 2) (by omega))
    have ek : (k : Int) - 1 = ((k - 1 : Nat) : Int) := by omega
    generalize nx l k = x at *
    generalize nx l ((k - 1) / 2) = y at *
    generalize hbb : betterV x y = bb at *
    (conv => arg 5; whnf)
    refine wp_must ⟨by omega, by omega, hs.some hlt⟩ ?_
    (conv => arg 5; whnf)
    refine readX (l := l) (k := k) rfl List.mem_cons_self hlt (hs.some hlt) hx rfl ?_
    (conv => arg 5; whnf)
    refine wp_must ⟨by omega, by omega⟩ ?_
    rw [ek]
    (conv => arg 5; whnf)
    refine wp_prim (.int .i64 (((k - 1) / 2 : Nat) : Int)) (fun w => quo_ _ _ (k - 1) (by omega) w) ?_
    (conv => arg 5; whnf)
    refine wp_must ⟨by omega, by omega, hs.some hp⟩ ?_
    (conv => arg 5; whnf)
    refine readX (l := l) (k := (k - 1) / 2) rfl List.mem_cons_self hp (hs.some hp) hy rfl ?_
    (conv => arg 5; whnf)
    refine meetc (v := .bool bb) rfl (by kernel_rfl) (fun β ρ w' hM' => hbb ▸ rbetter x y w' (hM.later hM'.below) hdx hdy) ?_
    (conv => arg 5; whnf)
    refine wp_br (fun h2 => ?_) (fun h2 => ?_)
    · (conv => arg 5; whnf)
      exact wp_back fun β ρ w' hM' => ⟨by rw [hBad h2]; rfl, hM'.below⟩
    · (conv => arg 5; whnf)
      refine wp_must ⟨by omega, by omega⟩ ?_
      (conv => arg 5; whnf)
      refine wp_end ⟨k + 1, ⟨by omega, .inl (by omega), by rw [hT, hto, h2]; simp⟩, ⟨by repeat' first | exact trivial | refine ⟨.inl rfl, ?_⟩ | refine ⟨.inr rfl, ?_⟩, ⟨by repeat' first | exact trivial | refine ⟨.inl rfl, ?_⟩ | refine ⟨.inr rfl, ?_⟩, by repeat' first | exact trivial | refine ⟨.inl rfl, ?_⟩ | refine ⟨.inr rfl, ?_⟩, fun _ h => h⟩, rfl⟩, by show n - (k + 1) < n - k; omega⟩
  · have hH : heapV l = true := by
      unfold heapV
      rcases hkn with h | h
      · have : k = l.length := by simp at h1; omega
        rw [← this]; exact hto
      · have : l.length ≤ 1 := by simp at h1; omega
        rcases (by omega : l.length = 0 ∨ l.length = 1) with h | h
        · rw [h]; rfl
        · rw [h]; rfl
    (conv => arg 5; whnf)
    exact wp_back fun β ρ w' hM' => ⟨by rw [hH]; rfl, hM'.below⟩
/-- The better one of those below; none: -1. -/
def belowI (l : List Tx) (i : Nat) : Int := if l.length ≤ 2 * i + 1 then -1 else if 2 * i + 2 < l.length ∧ betterV (nx l (2 * i + 2)) (nx l (2 * i + 1)) = true then 2 * i + 2 else 2 * i + 1
set_option maxHeartbeats 4000000 in
set_option maxRecDepth 100000 in
theorem rbelow_ (i : Nat) (hi : i ≤ 1000000) (l : List Tx) (a : Option Addr) (n c : Nat) (w : World) (hM : Most w) (hs : Sl a n c) (hn : n = l.length) (hl : l.length ≤ 100000) (hd : ∀ x ∈ l, x.d.size ≤ maxLen) (hrow : At w (pt a n) (cellsL l)) :
    Calls Tryd.prog 73 (List.toArray [.slice a n c, .int .i64 i]) w fun e w' => e = .returned (.int .i64 (belowI l i)) ∧ Below w.heap.size w w' := by
  have hn63 := hs.le
  have hbl : belowI l i = if l.length ≤ 2 * i + 1 then (-1 : Int) else if 2 * i + 2 < l.length ∧ betterV (nx l (2 * i + 2)) (nx l (2 * i + 1)) = true then 2 * (i : Int) + 2 else 2 * (i : Int) + 1 := rfl
  refine calls_of_exec env_ok Tryd.func73 rfl [(4, (line [0, 1, 2, 3, 4, 5, 6, 7, 8, 9, 10, 11, 12, 13, 14, 15, 16], []))] (schedQ_ok _ _ (by kernel_rfl)) [rowF (pt a n) (cellsL l)] (at1 hrow) ?_
  (conv => arg 5; whnf)
  refine wp_must ⟨by omega, by omega⟩ ?_
  (conv => arg 5; whnf)
  refine wp_must ⟨by omega, by omega⟩ ?_
  (conv => arg 5; whnf)
  refine wp_br (fun h1 => ?_) (fun h1 => ?_)
  · (conv => arg 5; whnf)
    exact wp_back fun β ρ w' hM' => ⟨by rw [hbl, if_pos (by simp at h1; omega)]; rfl, hM'.below⟩
  · have hlt : 2 * i + 1 < n := by simp at h1; omega
    (conv => arg 5; whnf)
    refine wp_must ⟨by omega, by omega⟩ ?_
    (conv => arg 5; whnf)
    refine wp_g1 (fun h2 => ?_) (fun h2 => ?_)
    · have hlt2 : 2 * i + 2 < n := by simp at h2; omega
      have e1 : 2 * (i : Int) + 1 = ((2 * i + 1 : Nat) : Int) := by omega
      have e2 : ((2 * i + 1 : Nat) : Int) + 1 = ((2 * i + 2 : Nat) : Int) := by omega
      have hx := nx_get (l := l) (i := 2 * i + 2) (by omega)
      have hy := nx_get (l := l) (i := 2 * i + 1) (by omega)
      have hdx := hd _ (nx_mem (l := l) (i := 2 * i + 2) (by omega))
      have hdy := hd _ (nx_mem (l := l) (i := 2 * i + 1) (by omega))
      generalize nx l (2 * i + 2) = x at *
      generalize nx l (2 * i + 1) = y at *
      generalize hbb : betterV x y = bb at *
      rw [e1]
      (conv => arg 5; whnf)
      refine wp_must ⟨by omega, by omega⟩ ?_
      rw [e2]
      (conv => arg 5; whnf)
      refine wp_must ⟨by omega, by omega, hs.some hlt2⟩ ?_
      (conv => arg 5; whnf)
      refine readX (l := l) (k := 2 * i + 2) rfl List.mem_cons_self hlt2 (hs.some hlt2) hx rfl ?_
      (conv => arg 5; whnf)
      refine wp_must ⟨by omega, by omega, hs.some hlt⟩ ?_
      (conv => arg 5; whnf)
      refine readX (l := l) (k := 2 * i + 1) rfl List.mem_cons_self hlt (hs.some hlt) hy rfl ?_
      (conv => arg 5; whnf)
      refine meetc (v := .bool bb) rfl (by kernel_rfl) (fun β ρ w' hM' => hbb ▸ rbetter x y w' (hM.later hM'.below) hdx hdy) ?_
      (conv => arg 5; whnf)
      refine wp_br (fun h3 => ?_) (fun h3 => ?_)
      · (conv => arg 5; whnf)
        refine wp_must ⟨by omega, by omega⟩ ?_
        (conv => arg 5; whnf)
        exact wp_back fun β ρ w' hM' => ⟨by rw [hbl, if_neg (by omega), if_pos ⟨by omega, h3⟩]; show Ending.returned (.int .i64 (((2 * i + 1 : Nat) : Int) + 1)) = _; congr 2 <;> omega, hM'.below⟩
      · (conv => arg 5; whnf)
        exact wp_back fun β ρ w' hM' => ⟨by rw [hbl, if_neg (by omega), if_neg (by rw [h3]; simp)]; show Ending.returned (.int .i64 ((2 * i + 1 : Nat) : Int)) = _; congr 2 <;> omega, hM'.below⟩
    · (conv => arg 5; whnf)
      exact wp_back fun β ρ w' hM' => ⟨by rw [hbl, if_neg (by omega), if_neg (by simp at h2; omega)]; rfl, hM'.below⟩
end Go.Proofs.YtjejjgoagjkfdaaDoor.heap
