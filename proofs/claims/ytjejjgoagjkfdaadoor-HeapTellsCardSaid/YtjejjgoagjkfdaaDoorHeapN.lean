/- Layer 6 (heap): how often one is in a list. -/
import Derived.Test.YtjejjgoagjkfdaaDoorHeapM
import Derived.Test.YtjejjgoagjkfdaaDoorHeapL
namespace Go.Proofs.YtjejjgoagjkfdaaDoor.heap
open Go.RowKit Sx txn queue
set_option linter.unusedVariables false
set_option linter.unusedSimpArgs false
def sameT (a b : Tx) : Bool := decide (a.s = b.s) && decide (a.n = b.n) && decide (a.t = b.t) && decide (a.c = b.c) && decide (a.g = b.g) && decide (a.d.toList = b.d.toList)
theorem sameT_iff (a b : Tx) : sameT a b = true ↔ a = b := by
  unfold sameT
  simp only [Bool.and_eq_true, decide_eq_true_eq]
  constructor
  · rintro ⟨⟨⟨⟨⟨h1, h2⟩, h3⟩, h4⟩, h5⟩, h6⟩
    obtain ⟨s, n, t, c, g, d⟩ := a
    obtain ⟨s', n', t', c', g', d'⟩ := b
    have : d = d' := ByteArray.ext (Array.toList_inj.1 (by rw [← ByteArray.toList_eq, ← ByteArray.toList_eq]; exact h6))
    simp_all
  · rintro rfl
    simp
theorem sameT_self (a : Tx) : sameT a a = true := (sameT_iff a a).2 rfl
theorem eq_any (x y : Operand) (a b : Tx) (w : World) : (do eqGuard .eql 28 x y a.val b.val; pure (Next.value (← binOp .eql 28 a.val b.val)) : Sem Next).run Tryd.prog w = .ok (.value (.bool (sameT a b))) w := by
  obtain ⟨s, n, t, c, g, d⟩ := a
  obtain ⟨s', n', t', c', g', d'⟩ := b
  unfold sameT
  simp [Tx.val, eqGuard, go_sem]
  by_cases h1 : s = s' <;> by_cases h2 : n = n' <;> by_cases h3 : t = t' <;> by_cases h4 : c = c' <;> by_cases h5 : g = g' <;> by_cases h6 : d.toList = d'.toList <;> simp [h1, h2, h3, h4, h5, h6]
theorem neq_any (x y : Operand) (a b : Tx) (w : World) : (do eqGuard .neq 28 x y a.val b.val; pure (Next.value (← binOp .neq 28 a.val b.val)) : Sem Next).run Tryd.prog w = .ok (.value (.bool (!sameT a b))) w := by
  obtain ⟨s, n, t, c, g, d⟩ := a
  obtain ⟨s', n', t', c', g', d'⟩ := b
  unfold sameT
  simp [Tx.val, eqGuard, go_sem]
  by_cases h1 : s = s' <;> by_cases h2 : n = n' <;> by_cases h3 : t = t' <;> by_cases h4 : c = c' <;> by_cases h5 : g = g' <;> by_cases h6 : d.toList = d'.toList <;> simp [h1, h2, h3, h4, h5, h6]
/-- How often one is in a list. -/
def cnt (l : List Tx) (x : Tx) : Nat := l.countP fun y => sameT y x
theorem cnt_take (l : List Tx) (x : Tx) (k : Nat) (h : k < l.length) : cnt (l.take (k + 1)) x = cnt (l.take k) x + (if sameT (nx l k) x = true then 1 else 0) := by
  unfold cnt
  rw [List.take_add_one, nx_get h, List.countP_append]
  simp [List.countP_cons]
theorem cnt_le (l : List Tx) (x : Tx) : cnt l x ≤ l.length := List.countP_le_length
theorem cnt_perm {l r : List Tx} (h : l.Perm r) (x : Tx) : cnt l x = cnt r x := h.countP_eq _
theorem cnt_push (l : List Tx) (t x : Tx) : cnt (pushL l t) x = cnt l x + (if sameT t x = true then 1 else 0) := by
  rw [cnt_perm (pushL_perm l t)]
  unfold cnt
  rw [List.countP_append]
  simp [List.countP_cons]
theorem cnt_pop {l : List Tx} (h : 1 ≤ l.length) (x : Tx) : cnt l x = cnt (popL l) x + (if sameT (nx l 0) x = true then 1 else 0) := by
  rw [← cnt_perm (popL_perm h)]
  unfold cnt
  rw [List.countP_cons]
set_option maxHeartbeats 4000000 in
set_option maxRecDepth 100000 in
theorem count_ (x : Tx) (l : List Tx) (a : Option Addr) (n c : Nat) (w : World) (hM : Most w) (hs : Sl a n c) (hn : n = l.length) (hl : l.length ≤ 100000) (hd : ∀ x ∈ l, x.d.size ≤ maxLen) (hrow : At w (pt a n) (cellsL l)) :
    Calls Tryd.prog 53 (List.toArray [.slice a n c, x.val]) w fun e w' => e = .returned (.int .i64 (cnt l x : Nat)) ∧ Below w.heap.size w w' := by
  have hn63 := hs.le
  refine calls_of_exec env_ok Tryd.func53 rfl [(5, (line [0, 1, 2, 3, 4, 5], []))] (schedQ_ok _ _ (by kernel_rfl)) [rowF (pt a n) (cellsL l)] (at1 hrow) ?_
  (conv => arg 5; whnf)
  refine loop_rule env_ok [(5, (line [0, 1, 2, 3, 4, 5], []))] (schedQ_ok _ _ (by kernel_rfl)) (fun k : Nat => k ≤ n) (fun k => (⟨[some ([.v (.int .i64 x.s), .v (.int .i64 x.n), .v (.int .i64 x.t), .v (.int .i64 x.c), .v (.int .i64 x.g), .v (.string x.d)], 28)], [], [rowF (pt a n) (cellsL l)]⟩, sl 22 [(0, .v (.slice a n c)), (3, .p 0 0), (5, .v (.int .i64 (cnt (l.take k) x : Nat))), (6, .v (.int .i64 k))])) (fun k => n - k) 0 (Nat.zero_le _) ⟨by repeat' first | exact trivial | refine ⟨.inl rfl, ?_⟩ | refine ⟨.inr rfl, ?_⟩, ⟨by repeat' first | exact trivial | refine ⟨.inl rfl, ?_⟩ | refine ⟨.inr rfl, ?_⟩, by repeat' first | exact trivial | refine ⟨.inl rfl, ?_⟩ | refine ⟨.inr rfl, ?_⟩, fun _ h => h⟩, rfl⟩ ?_
  intro k hk
  (conv => arg 5; whnf)
  refine wp_br (fun h1 => ?_) (fun h1 => ?_)
  · have hlt : k < n := by simp at h1; omega
    have hst := cnt_take l x k (by omega)
    have hle := cnt_le (l.take k) x
    rw [List.length_take] at hle
    have hx := nx_get (l := l) (i := k) (by omega)
    (conv => arg 5; whnf)
    refine wp_must ⟨by omega, by omega, hs.some hlt⟩ ?_
    (conv => arg 5; whnf)
    refine readX (l := l) (k := k) rfl List.mem_cons_self hlt (hs.some hlt) hx rfl ?_
    (conv => arg 5; whnf)
    refine wp_prim (.bool (sameT (nx l k) x)) (fun w => eq_any _ _ (nx l k) x w) ?_
    (conv => arg 5; whnf)
    refine wp_br (fun h2 => ?_) (fun h2 => ?_)
    · (conv => arg 5; whnf)
      refine wp_must ⟨by omega, by omega⟩ ?_
      (conv => arg 5; whnf)
      refine wp_must ⟨by omega, by omega⟩ ?_
      (conv => arg 5; whnf)
      refine wp_end ⟨k + 1, hlt, (by rw [hst, if_pos h2]; exact ⟨by repeat' first | exact trivial | refine ⟨.inl rfl, ?_⟩ | refine ⟨.inr rfl, ?_⟩, ⟨by repeat' first | exact trivial | refine ⟨.inl rfl, ?_⟩ | refine ⟨.inr rfl, ?_⟩, by repeat' first | exact trivial | refine ⟨.inl rfl, ?_⟩ | refine ⟨.inr rfl, ?_⟩, fun _ h => h⟩, rfl⟩), by show n - (k + 1) < n - k; omega⟩
    · (conv => arg 5; whnf)
      refine wp_must ⟨by omega, by omega⟩ ?_
      (conv => arg 5; whnf)
      refine wp_end ⟨k + 1, hlt, (by rw [hst, if_neg (by rw [h2]; simp)]; exact ⟨by repeat' first | exact trivial | refine ⟨.inl rfl, ?_⟩ | refine ⟨.inr rfl, ?_⟩, ⟨by repeat' first | exact trivial | refine ⟨.inl rfl, ?_⟩ | refine ⟨.inr rfl, ?_⟩, by repeat' first | exact trivial | refine ⟨.inl rfl, ?_⟩ | refine ⟨.inr rfl, ?_⟩, fun _ h => h⟩, rfl⟩), by show n - (k + 1) < n - k; omega⟩
  · have hkn : k = l.length := by simp at h1; omega
    (conv => arg 5; whnf)
    exact wp_back fun β ρ w' hM' => ⟨by rw [hkn, List.take_length]; rfl, hM'.below⟩
end Go.Proofs.YtjejjgoagjkfdaaDoor.heap
