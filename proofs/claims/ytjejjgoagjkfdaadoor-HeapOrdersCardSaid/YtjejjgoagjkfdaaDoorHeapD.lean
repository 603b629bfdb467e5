/- Layer 6 (heap): whether it is one; the worst one; the first one taken out. -/
import Derived.Test.YtjejjgoagjkfdaaDoorHeapC
namespace Go.Proofs.YtjejjgoagjkfdaaDoor.heap
open Go.RowKit Sx txn queue
set_option linter.unusedVariables false
set_option linter.unusedSimpArgs false
/-- So far none is better than the one above it. -/
def heapTo (l : List Tx) (k : Nat) : Bool := (List.range k).all fun i => i == 0 || !betterV (nx l i) (nx l ((i - 1) / 2))
def heapV (l : List Tx) : Bool := heapTo l l.length
theorem heapTo_succ (l : List Tx) (k : Nat) : heapTo l (k + 1) = (heapTo l k && (k == 0 || !betterV (nx l k) (nx l ((k - 1) / 2)))) := by
  unfold heapTo
  rw [List.range_succ, List.all_append]
  simp
theorem heapTo_bad {l : List Tx} {k : Nat} (h0 : 0 < k) (hk : k < l.length) (hb : betterV (nx l k) (nx l ((k - 1) / 2)) = true) : heapV l = false := by
  unfold heapV heapTo
  rw [List.all_eq_false]
  exact ⟨k, by simpa using hk, by simp [hb]; omega⟩
set_option maxHeartbeats 4000000 in
set_option maxRecDepth 100000 in
theorem isHeap_ (l : List Tx) (a : Option Addr) (n c : Nat) (w : World) (hM : Most w) (hs : Sl a n c) (hn : n = l.length) (hl : l.length ≤ 100000) (hd : ∀ x ∈ l, x.d.size ≤ maxLen) (hrow : At w (pt a n) (cellsL l)) :
    Calls Tryd.prog 75 (List.toArray [.iface 74 (.slice a n c)]) w fun e w' => e = .returned (.bool (heapV l)) ∧ Below w.heap.size w w' := by
  have BT := fun (x y : Nat) (hx : x < n) (hy : y < n) w hM hr => better_ l a n c x y w hM hs hn hx hy hd hr
  refine calls_of_exec env_ok Tryd.func75 rfl [(4, (line [0, 1, 2, 4, 5, 6, 3, 7], []))] (schedQ_ok _ _ (by kernel_rfl)) [rowF (pt a n) (cellsL l)] (at1 hrow) ?_
  (conv => arg 5; whnf)
  refine loop_rule env_ok [(4, (line [0, 1, 2, 4, 5, 6, 3, 7], []))] (schedQ_ok _ _ (by kernel_rfl)) (fun k : Nat => 1 ≤ k ∧ (k ≤ n ∨ k = 1) ∧ heapTo l k = true) (fun k => (⟨[], [], [rowF (pt a n) (cellsL l)]⟩, sl 18 [(0, .v (.iface 74 (.slice a n c))), (2, .v (.bool false)), (3, .v (.int .i64 k))])) (fun k => n - k) 1 ⟨Nat.le_refl _, .inr rfl, by simp [heapTo]⟩ ⟨by repeat' first | exact trivial | refine ⟨.inl rfl, ?_⟩ | refine ⟨.inr rfl, ?_⟩, ⟨by repeat' first | exact trivial | refine ⟨.inl rfl, ?_⟩ | refine ⟨.inr rfl, ?_⟩, by repeat' first | exact trivial | refine ⟨.inl rfl, ?_⟩ | refine ⟨.inr rfl, ?_⟩, fun _ h => h⟩, rfl⟩ ?_
  rintro k ⟨hk1, hkn, hto⟩
  (conv => arg 5; whnf)
  refine meetc (v := .int .i64 n) rfl (by kernel_rfl) (fun β ρ w' hM' => len_ a n c w') ?_
  (conv => arg 5; whnf)
  refine wp_br (fun h1 => ?_) (fun h1 => ?_)
  · have hlt : k < n := by simp at h1; omega
    have hT := heapTo_succ l k
    have hBad := heapTo_bad (l := l) (k := k) (by omega) (by omega)
    have B := BT k ((k - 1) / 2) hlt (by omega)
    generalize betterV (nx l k) (nx l ((k - 1) / 2)) = bb at *
    (conv => arg 5; whnf)
    refine wp_prim (.func (.method "Better") #[.iface 74 (.slice a n c)] #[]) (fun w => by kernel_rfl) ?_
    (conv => arg 5; whnf)
    refine meetc (v := .int .i64 (((k - 1) / 2 : Nat) : Int)) rfl (by kernel_rfl) (fun β ρ w' hM' => above_ k (by omega) (by omega) w') ?_
    (conv => arg 5; whnf)
    refine meetc (v := .bool bb) rfl (by kernel_rfl) (fun β ρ w' hM' => B w' (hM.later hM'.below) (hM'.at_ (.head _))) ?_
    (conv => arg 5; whnf)
    refine wp_br (fun h2 => ?_) (fun h2 => ?_)
    · (conv => arg 5; whnf)
      exact wp_back fun β ρ w' hM' => ⟨by rw [hBad h2]; rfl, hM'.below⟩
    · (conv => arg 5; whnf)
      refine wp_must ⟨by omega, by omega⟩ ?_
      (conv => arg 5; whnf)
      refine wp_end ⟨k + 1, ⟨by omega, .inl (by omega), by rw [hT, hto, h2]; simp⟩, ⟨by repeat' first | exact trivial | refine ⟨.inl rfl, ?_⟩ | refine ⟨.inr rfl, ?_⟩, ⟨by repeat' first | exact trivial | refine ⟨.inl rfl, ?_⟩ | refine ⟨.inr rfl, ?_⟩, by repeat' first | exact trivial | refine ⟨.inl rfl, ?_⟩ | refine ⟨.inr rfl, ?_⟩, fun _ h => h⟩, rfl⟩, by show n - (k + 1) < n - k; omega⟩
  · have hH : heapV l = true := by
      unfold heapV
      rcases hkn with h | h
      · have : k = l.length := by simp at h1; omega
        rw [← this]; exact hto
      · have : l.length ≤ 1 := by simp at h1; omega
        rcases (by omega : l.length = 0 ∨ l.length = 1) with h | h
        · rw [h]; rfl
        · rw [h]; rfl
    (conv => arg 5; whnf)
    exact wp_back fun β ρ w' hM' => ⟨by rw [hH]; rfl, hM'.below⟩
set_option maxHeartbeats 4000000 in
set_option maxRecDepth 100000 in
theorem check_ (l : List Tx) (a : Option Addr) (n c : Nat) (w : World) (hM : Most w) (hs : Sl a n c) (hn : n = l.length) (hl : l.length ≤ 100000) (hd : ∀ x ∈ l, x.d.size ≤ maxLen) (hrow : At w (pt a n) (cellsL l)) :
    Calls Tryd.prog 44 (List.toArray [.slice a n c]) w fun e w' => e = .returned (.bool (heapV l)) ∧ Below w.heap.size w w' := by
  refine calls_of_exec env_ok Tryd.func44 rfl [] (schedQ_ok _ _ (by kernel_rfl)) [rowF (pt a n) (cellsL l)] (at1 hrow) ?_
  (conv => arg 5; whnf)
  refine wp_prim (.iface 74 (.slice a n c)) (fun w => by kernel_rfl) ?_
  (conv => arg 5; whnf)
  refine meetc (v := .bool (heapV l)) rfl (by kernel_rfl) (fun β ρ w' hM' => isHeap_ l a n c w' (hM.later hM'.below) hs hn hl hd (hM'.at_ (.head _))) ?_
  (conv => arg 5; whnf)
  exact wp_back fun β ρ w' hM' => ⟨rfl, hM'.below⟩
/-- The worst one so far. -/
def worstTo (l : List Tx) : Nat → Nat
  | 0 => 0
  | k + 1 => if betterV (nx l (worstTo l k)) (nx l k) = true then k else worstTo l k
theorem worstTo_lt (l : List Tx) : ∀ k, worstTo l k ≤ k - 1
  | 0 => Nat.le_refl _
  | k + 1 => by
    have := worstTo_lt l k
    unfold worstTo
    split <;> omega
set_option maxHeartbeats 4000000 in
set_option maxRecDepth 100000 in
theorem worst_ (l : List Tx) (a : Option Addr) (n c : Nat) (w : World) (hM : Most w) (hs : Sl a n c) (hn : n = l.length) (hl : l.length ≤ 100000) (hd : ∀ x ∈ l, x.d.size ≤ maxLen) (hrow : At w (pt a n) (cellsL l)) :
    Calls Tryd.prog 42 (List.toArray [.slice a n c]) w fun e w' => e = .returned (.tuple #[.int .i64 (worstTo l n : Nat), .bool (decide (0 < n))]) ∧ Below w.heap.size w w' := by
  have hn63 := hs.le
  refine calls_of_exec env_ok Tryd.func42 rfl [(5, (line [0, 1, 2, 3, 4, 5, 6, 7, 8], []))] (schedQ_ok _ _ (by kernel_rfl)) [rowF (pt a n) (cellsL l)] (at1 hrow) ?_
  (conv => arg 5; whnf)
  refine loop_rule env_ok [(5, (line [0, 1, 2, 3, 4, 5, 6, 7, 8], []))] (schedQ_ok _ _ (by kernel_rfl)) (fun k : Nat => k ≤ n) (fun k => (⟨[], [], [rowF (pt a n) (cellsL l)]⟩, sl 26 [(0, .v (.slice a n c)), (2, .v (.int .i64 0)), (3, .v (.bool false)), (4, .v (.int .i64 (worstTo l k : Nat))), (6, .v (.slice a n c)), (7, .v (.int .i64 n)), (8, .v (.int .i64 k))])) (fun k => n - k) 0 (Nat.zero_le _) ⟨by repeat' first | exact trivial | refine ⟨.inl rfl, ?_⟩ | refine ⟨.inr rfl, ?_⟩, ⟨by repeat' first | exact trivial | refine ⟨.inl rfl, ?_⟩ | refine ⟨.inr rfl, ?_⟩, by repeat' first | exact trivial | refine ⟨.inl rfl, ?_⟩ | refine ⟨.inr rfl, ?_⟩, fun _ h => h⟩, rfl⟩ ?_
  intro k hk
  (conv => arg 5; whnf)
  refine wp_br (fun h1 => ?_) (fun h1 => ?_)
  · have hlt : k < n := by simp at h1; omega
    have hw := worstTo_lt l k
    have hx := nx_get (l := l) (i := worstTo l k) (by omega)
    have hy := nx_get (l := l) (i := k) (by omega)
    have hlw : worstTo l k < n := by omega
    have hst : worstTo l (k + 1) = if betterV (nx l (worstTo l k)) (nx l k) = true then k else worstTo l k := rfl
    have B := fun w hM => better (nx l (worstTo l k)) (nx l k) w hM (hd _ (nx_mem (by omega))) (hd _ (nx_mem (by omega)))
    (conv => arg 5; whnf)
    refine wp_must ⟨by omega, by omega, hs.some hlw⟩ ?_
    (conv => arg 5; whnf)
    refine readX (l := l) (k := worstTo l k) rfl List.mem_cons_self hlw (hs.some hlw) hx rfl ?_
    (conv => arg 5; whnf)
    refine wp_must ⟨by omega, by omega, hs.some hlt⟩ ?_
    (conv => arg 5; whnf)
    refine readX (l := l) (k := k) rfl List.mem_cons_self hlt (hs.some hlt) hy rfl ?_
    (conv => arg 5; whnf)
    refine meetc (v := .bool (betterV (nx l (worstTo l k)) (nx l k))) rfl (by kernel_rfl) (fun β ρ w' hM' => B w' (hM.later hM'.below)) ?_
    (conv => arg 5; whnf)
    refine wp_br (fun h2 => ?_) (fun h2 => ?_)
    · (conv => arg 5; whnf)
      refine wp_must ⟨by omega, by omega⟩ ?_
      (conv => arg 5; whnf)
      refine wp_end ⟨k + 1, hlt, (by rw [hst, if_pos h2]; exact ⟨by repeat' first | exact trivial | refine ⟨.inl rfl, ?_⟩ | refine ⟨.inr rfl, ?_⟩, ⟨by repeat' first | exact trivial | refine ⟨.inl rfl, ?_⟩ | refine ⟨.inr rfl, ?_⟩, by repeat' first | exact trivial | refine ⟨.inl rfl, ?_⟩ | refine ⟨.inr rfl, ?_⟩, fun _ h => h⟩, rfl⟩), by show n - (k + 1) < n - k; omega⟩
    · (conv => arg 5; whnf)
      refine wp_must ⟨by omega, by omega⟩ ?_
      (conv => arg 5; whnf)
      refine wp_end ⟨k + 1, hlt, (by rw [hst, if_neg (by rw [h2]; simp)]; exact ⟨by repeat' first | exact trivial | refine ⟨.inl rfl, ?_⟩ | refine ⟨.inr rfl, ?_⟩, ⟨by repeat' first | exact trivial | refine ⟨.inl rfl, ?_⟩ | refine ⟨.inr rfl, ?_⟩, by repeat' first | exact trivial | refine ⟨.inl rfl, ?_⟩ | refine ⟨.inr rfl, ?_⟩, fun _ h => h⟩, rfl⟩), by show n - (k + 1) < n - k; omega⟩
  · have hkn : k = n := by simp at h1; omega
    subst hkn
    (conv => arg 5; whnf)
    exact wp_back fun β ρ w' hM' => ⟨by (have e : decide ((k : Int) > 0) = decide (0 < k) := by simp); show Ending.returned (.tuple #[.int .i64 (worstTo l k : Nat), .bool (decide ((k : Int) > 0))]) = _; rw [e], hM'.below⟩
/-- The first one taken out: the last one in its place sinks. -/
def cutL (l : List Tx) : List Tx := downL (l.length - 1) (l.set 0 (nx l (l.length - 1)))
def popL (l : List Tx) : List Tx := (cutL l).take (l.length - 1)
theorem cutL_length (l : List Tx) : (cutL l).length = l.length := by unfold cutL; rw [downL_length]; simp
theorem popL_length (l : List Tx) : (popL l).length = l.length - 1 := by unfold popL; rw [List.length_take, cutL_length]; omega
set_option maxHeartbeats 4000000 in
set_option maxRecDepth 100000 in
theorem cut_ (l : List Tx) (rest : List Value) (g n c : Nat) (w : World) (hM : Most w) (hg0 : 0 < g) (hb : Blk w g l rest) (hs : Sl (some ⟨g, 0, none⟩) n c) (hn : n = l.length) (h1 : 1 ≤ n) (hl : l.length ≤ 100000) (hd : ∀ x ∈ l, x.d.size ≤ maxLen) :
    Calls Tryd.prog 72 (List.toArray [.slice (some ⟨g, 0, none⟩) n c]) w fun e w' => e = .returned (.slice (some ⟨g, 0, none⟩) (n - 1) c) ∧ w.grownBy w' (some g) ∧ ∃ rest', (cellsL (popL l)).length + rest'.length = (cellsL l).length + rest.length ∧ Blk w' g (popL l) rest' := by
  have hn63 := hs.le
  have hsc := hs.1
  have hF : ∀ φ ∈ [blkF g l rest, rowF (pt (some ⟨g, 0, none⟩) n) (cellsL (l.take n))], ∀ g', φ.g = some g' → ∃ o, w.heap[g']? = some o ∧ φ.holds o := by
    intro φ hφ
    simp only [List.mem_cons, List.not_mem_nil, or_false] at hφ
    rcases hφ with rfl | rfl
    · exact hb.facts _ (by simp)
    · exact hb.view n
  have hlast : n - 1 < n := by omega
  have hx : (l.take n)[n - 1]? = some (nx l (n - 1)) := by rw [List.getElem?_take, if_pos hlast]; exact nx_get (by omega)
  have ek : (n : Int) - 1 = ((n - 1 : Nat) : Int) := by omega
  have hd2 : ∀ x ∈ l.set 0 (nx l (n - 1)), x.d.size ≤ maxLen := fun x hx => by
    rcases List.mem_or_eq_of_mem_set hx with hx | rfl
    · exact hd x hx
    · exact hd _ (nx_mem (by omega))
  have hc : cutL l = downL (n - 1) (l.set 0 (nx l (n - 1))) := by unfold cutL; rw [← hn]
  have hp : popL l = (cutL l).take (n - 1) := by unfold popL; rw [← hn]
  have hs' : Sl (some (⟨g, 0, none⟩ : Addr)) (n - 1) c := ⟨by omega, hs.2.1, fun h => by cases h⟩
  have DW := fun w hM hb => down_ (l.set 0 (nx l (n - 1))) rest g (n - 1) c w hM hg0 hb hs' (by simp; omega) (by simp; omega) hd2
  rw [← hc] at DW
  have hcl := cutL_length l
  have hpl := popL_length l
  refine calls_of_turn env_ok Tryd.func72 rfl [] (schedQ_ok _ _ (by kernel_rfl)) (some g) [blkF g l rest, rowF (pt (some ⟨g, 0, none⟩) n) (cellsL (l.take n))] hF ?_
  (conv => arg 5; whnf)
  refine wp_must ⟨by omega, by omega⟩ ?_
  rw [ek]
  (conv => arg 5; whnf)
  refine wp_must ⟨by omega, by omega, rfl⟩ ?_
  (conv => arg 5; whnf)
  refine readX (l := l.take n) (k := n - 1) rfl (.tail _ (.head _)) hlast rfl hx rfl ?_
  (conv => arg 5; whnf)
  refine wp_must ⟨by omega, by omega, rfl⟩ ?_
  (conv => arg 5; whnf)
  refine op_put (u := nx l (n - 1)) (i := 0) (l := l) rfl rfl (by show (⟨g, 0, none⟩ : Addr).add 0 = _; rfl) rfl (.head _) (.inr rfl) (by omega) ?_
  (conv => arg 5; whnf)
  refine wp_prim (.slice (some ⟨g, 0, none⟩) (n - 1) c) (fun w => slice_to (some ⟨g, 0, none⟩) n c (n - 1) w (by omega)) ?_
  (conv => arg 5; whnf)
  refine wp_prim (.iface 74 (.slice (some ⟨g, 0, none⟩) (n - 1) c)) (fun w => by kernel_rfl) ?_
  (conv => arg 5; whnf)
  refine op_turn (g := g) (φ := blkF g (l.set 0 (nx l (n - 1))) rest) rfl rfl (by kernel_rfl) (.head _) rfl (.inr rfl) (fun F h => by cases h) (fun β ρ w' hM' => (DW w' (Most.turned hM hM'.grown hg0) (blk hM' (.head _))).mono fun e w2 ⟨he, hgr, hb2⟩ => ⟨_, [blkF g (cutL l) rest], he, hgr, (fun ψ hψ => by (simp only [List.mem_singleton] at hψ; subst hψ; exact .inr ⟨rfl, _, hb2, rfl⟩)), ?_⟩)
  (conv => arg 5; whnf)
  refine wp_prim (.slice (some ⟨g, 0, none⟩) (n - 1) c) (fun w => slice_to (some ⟨g, 0, none⟩) n c (n - 1) w (by omega)) ?_
  (conv => arg 5; whnf)
  refine wp_back fun β ρ w3 hM3 => ⟨rfl, hM3.grown, cellsL ((cutL l).drop (n - 1)) ++ rest, ?_, ?_⟩
  · rw [hp, List.length_append, cellsL_length, cellsL_length, cellsL_length, List.length_take, List.length_drop]
    omega
  · have hb3 := blk hM3 (.head _)
    unfold Blk at hb3 ⊢
    rw [hb3, hp]
    congr 2
    rw [← List.append_assoc, ← cellsL_append, List.take_append_drop]
end Go.Proofs.YtjejjgoagjkfdaaDoor.heap
