/- Layer 6 (heap): what a row is asked, by contract. -/
import Derived.Test.YtjejjgoagjkfdaaDoorSxO
import Derived.Test.YtjejjgoagjkfdaaDoorOrd
import Derived.Test.YtjejjgoagjkfdaaDoorQueueS
namespace Go.Proofs.YtjejjgoagjkfdaaDoor.heap
open Go.RowKit Sx txn queue
set_option linter.unusedVariables false
set_option linter.unusedSimpArgs false

/-- One of a list; where there is none, one of zeros. -/
def nx (l : List Tx) (i : Nat) : Tx := l.getD i tx0
theorem nx_get {l : List Tx} {i : Nat} (h : i < l.length) : l[i]? = some (nx l i) := by
  unfold nx
  rw [List.getD_eq_getElem?_getD, List.getElem?_eq_getElem h]
  rfl
theorem nx_mem {l : List Tx} {i : Nat} (h : i < l.length) : nx l i ∈ l := List.mem_of_getElem? (nx_get h)
/-- A block that holds a list, and maybe more behind it. -/
def blkF (g : Nat) (l : List Tx) (rest : List Value) : Fact := ⟨some g, fun o => o = .cells (cellsL l ++ rest).toArray 28 (0, 0)⟩
def Blk (w : World) (g : Nat) (l : List Tx) (rest : List Value) : Prop := w.heap[g]? = some (.cells (cellsL l ++ rest).toArray 28 (0, 0))
theorem Blk.facts {w : World} {g l rest} (h : Blk w g l rest) : ∀ φ ∈ [blkF g l rest], ∀ g', φ.g = some g' → ∃ o, w.heap[g']? = some o ∧ φ.holds o := by
  intro φ hφ g' hg'
  simp only [List.mem_singleton] at hφ
  subst hφ
  cases hg'
  exact ⟨_, h, rfl⟩
theorem blk {W : World} {G : Option Nat} {m : M} {β ρ} {w : World} {g l rest} (h : Mem W G m β ρ w) (hm : blkF g l rest ∈ m.facts) : Blk w g l rest := by
  obtain ⟨_, o, ho, hp⟩ := h.fact _ hm g rfl
  have hp : o = _ := hp
  rw [hp] at ho
  exact ho
theorem cellsL_take (l : List Tx) (j : Nat) : cellsL (l.take j) = (cellsL l).take (j * 6) := cellsL_takes l j
theorem Blk.view {w : World} {g l rest} (h : Blk w g l rest) (k : Nat) : At w (pt (some ⟨g, 0, none⟩) k) (cellsL (l.take k)) := by
  intro g' hg'
  by_cases hk : k = 0
  · rw [show pt (some ⟨g, 0, none⟩) k = none from if_pos hk] at hg'; cases hg'
  · rw [show pt (some ⟨g, 0, none⟩) k = some ⟨g, 0, none⟩ from if_neg hk] at hg' ⊢
    cases hg'
    refine ⟨_, h, fun ad had => ?_⟩
    cases had
    refine ⟨rfl, _, _, _, rfl, fun j u hu => ?_⟩
    rw [cellsL_take, List.getElem?_take] at hu
    split at hu
    · simp only [Nat.zero_add, List.getElem?_toArray]
      rw [List.getElem?_append_left (List.getElem?_eq_some_iff.1 hu).1]
      exact hu
    · cases hu
theorem Most.turned {w w' : World} {g : Nat} (h : Most w) (k : w.grownBy w' (some g)) (hg : 0 < g) : Most w' := by
  have h0 := h.2.2.2.2.2
  have hb : w'.heap[0]? = w.heap[0]? := k.block 0 h0 (by simp; omega)
  have hc : ∀ j, w'.cell? ⟨0, j, none⟩ = w.cell? ⟨0, j, none⟩ := fun j => World.cell?_of_block hb
  unfold Most at h ⊢
  rw [hc, hc, hc, hc, hc]
  exact ⟨h.1, h.2.1, h.2.2.1, h.2.2.2.1, h.2.2.2.2.1, Nat.lt_of_lt_of_le h0 k.size⟩

theorem len_ (a : Option Addr) (n c : Nat) (w : World) : Calls Tryd.prog 125 (List.toArray [.slice a n c]) w fun e w' => e = .returned (.int .i64 n) ∧ Below w.heap.size w w' := by
  refine calls_of_exec env_ok Tryd.func125 rfl [] (by kernel_rfl) [] (by simp) ?_
  (conv => arg 5; whnf)
  exact wp_back fun β ρ w' hM' => ⟨rfl, hM'.below⟩
theorem above_ (k : Nat) (h1 : 1 ≤ k) (hk : k ≤ 1000000000) (w : World) : Calls Tryd.prog 90 (List.toArray [.int .i64 k]) w fun e w' => e = .returned (.int .i64 (((k - 1) / 2 : Nat) : Int)) ∧ Below w.heap.size w w' := by
  refine calls_of_exec env_ok Tryd.func90 rfl [] (by kernel_rfl) [] (by simp) ?_
  (conv => arg 5; whnf)
  refine wp_must ⟨by omega, by omega⟩ ?_
  (conv => arg 5; whnf)
  refine wp_prim (.int .i64 (((k - 1) / 2 : Nat) : Int)) (fun w => ?_) ?_
  · have e : ((k : Int) - 1) = ((k - 1 : Nat) : Int) := by omega
    rw [e]
    have h2 : Int.tdiv ((k - 1 : Nat) : Int) 2 = (((k - 1) / 2 : Nat) : Int) := by
      rw [Int.tdiv_eq_ediv_of_nonneg (by omega)]; rfl
    have h3 : IntKind.i64.wrap (((k - 1) / 2 : Nat) : Int) = (((k - 1) / 2 : Nat) : Int) := by
      unfold IntKind.wrap
      simp [IntKind.signed, IntKind.bits]
      omega
    have h4 : IntKind.i64.wrap (((k - 1 : Nat) : Int) / 2) = ((k - 1 : Nat) : Int) / 2 := by simpa using h3
    simp [eqGuard, go_sem, h2, h4]
  (conv => arg 5; whnf)
  exact wp_back fun β ρ w' hM' => ⟨rfl, hM'.below⟩
set_option maxHeartbeats 2000000 in
set_option maxRecDepth 100000 in
theorem better_ (l : List Tx) (a : Option Addr) (n c i j : Nat) (w : World) (hM : Most w) (hs : Sl a n c) (hn : n = l.length) (hi : i < n) (hj : j < n) (hd : ∀ x ∈ l, x.d.size ≤ maxLen) (hrow : At w (pt a n) (cellsL l)) :
    Calls Tryd.prog 124 (List.toArray [.slice a n c, .int .i64 i, .int .i64 j]) w fun e w' => e = .returned (.bool (betterV (nx l i) (nx l j))) ∧ Below w.heap.size w w' := by
  have hn63 := hs.le
  have hx := nx_get (l := l) (i := i) (by omega)
  have hy := nx_get (l := l) (i := j) (by omega)
  have B := fun w hM => better (nx l i) (nx l j) w hM (hd _ (nx_mem (by omega))) (hd _ (nx_mem (by omega)))
  generalize nx l i = x at *
  generalize nx l j = y at *
  refine calls_of_exec env_ok Tryd.func124 rfl [(1, (line [0, 1, 2, 3, 4, 5, 6, 7, 8, 9], []))] (by kernel_rfl) [rowF (pt a n) (cellsL l)] (at1 hrow) ?_
  (conv => arg 5; whnf)
  refine wp_must ⟨by omega, by omega, hs.some hi⟩ ?_
  (conv => arg 5; whnf)
  refine readX (l := l) (k := i) rfl List.mem_cons_self hi (hs.some hi) hx rfl ?_
  (conv => arg 5; whnf)
  refine wp_must ⟨by omega, by omega, hs.some hj⟩ ?_
  (conv => arg 5; whnf)
  refine readX (l := l) (k := j) rfl List.mem_cons_self hj (hs.some hj) hy rfl ?_
  (conv => arg 5; whnf)
  refine meetc rfl (by kernel_rfl) (fun β ρ w' hM' => B w' (hM.later hM'.below)) ?_
  (conv => arg 5; whnf)
  exact wp_back fun β ρ w' hM' => ⟨rfl, hM'.below⟩
end Go.Proofs.YtjejjgoagjkfdaaDoor.heap
