/- Layer 6 (heap): who sinks, by contract. -/
import Derived.Test.YtjejjgoagjkfdaaDoorHeapB
namespace Go.Proofs.YtjejjgoagjkfdaaDoor.heap
open Go.RowKit Sx txn queue
set_option linter.unusedVariables false
set_option linter.unusedSimpArgs false
/-- The better one of those below, or who stands there. -/
def best1 (l : List Tx) (i : Nat) : Nat := if 2 * i + 1 < l.length ∧ betterV (nx l (2 * i + 1)) (nx l i) = true then 2 * i + 1 else i
def bestV (l : List Tx) (i : Nat) : Nat := if 2 * i + 2 < l.length ∧ betterV (nx l (2 * i + 2)) (nx l (best1 l i)) = true then 2 * i + 2 else best1 l i
def bst (l : List Tx) (i : Nat) : Nat → Nat
  | 0 => i
  | 1 => best1 l i
  | _ => bestV l i
theorem best1_lt {l : List Tx} {i : Nat} (h : i < l.length) : best1 l i < l.length := by unfold best1; split <;> omega
theorem bestV_lt {l : List Tx} {i : Nat} (h : i < l.length) : bestV l i < l.length := by have := best1_lt h; unfold bestV; split <;> omega
theorem bst_lt {l : List Tx} {i : Nat} (h : i < l.length) : ∀ j, bst l i j < l.length
  | 0 => h
  | 1 => best1_lt h
  | _ + 2 => bestV_lt h
theorem bst_step {l : List Tx} {i j : Nat} (hj : j ≤ 1) (h : 2 * i + 1 + j < l.length) : bst l i (j + 1) = if betterV (nx l (2 * i + 1 + j)) (nx l (bst l i j)) = true then 2 * i + 1 + j else bst l i j := by
  rcases (by omega : j = 0 ∨ j = 1) with rfl | rfl
  · show best1 l i = _
    unfold best1
    by_cases hb : betterV (nx l (2 * i + 1)) (nx l i) = true
    · rw [if_pos ⟨by omega, hb⟩]
      show _ = if betterV (nx l (2 * i + 1)) (nx l i) = true then _ else i
      rw [if_pos hb]
    · rw [if_neg (fun h => hb h.2)]
      show i = if betterV (nx l (2 * i + 1)) (nx l i) = true then _ else i
      rw [if_neg hb]
  · show bestV l i = _
    unfold bestV
    by_cases hb : betterV (nx l (2 * i + 2)) (nx l (best1 l i)) = true
    · rw [if_pos ⟨by omega, hb⟩]
      show _ = if betterV (nx l (2 * i + 2)) (nx l (best1 l i)) = true then 2 * i + 2 else best1 l i
      rw [if_pos hb]
    · rw [if_neg (fun h => hb h.2)]
      show best1 l i = if betterV (nx l (2 * i + 2)) (nx l (best1 l i)) = true then 2 * i + 2 else best1 l i
      rw [if_neg hb]
theorem bst_stop {l : List Tx} {i j : Nat} (hj : j ≤ 2) (h : j = 2 ∨ l.length ≤ 2 * i + 1 + j) : bst l i j = bestV l i := by
  rcases (by omega : j = 0 ∨ j = 1 ∨ j = 2) with rfl | rfl | rfl
  · have e1 : best1 l i = i := by unfold best1; rw [if_neg (by omega)]
    show i = bestV l i
    unfold bestV
    rw [if_neg (by omega), e1]
  · show best1 l i = bestV l i
    unfold bestV
    rw [if_neg (by omega)]
  · rfl
set_option maxHeartbeats 4000000 in
set_option maxRecDepth 100000 in
theorem bestAt_ (l : List Tx) (a : Option Addr) (k c i : Nat) (w : World) (hM : Most w) (hs : Sl a k c) (hk : k = l.length) (hl : l.length ≤ 1000000) (hi : i < k ∨ (i = 0 ∧ k = 0)) (hd : ∀ x ∈ l, x.d.size ≤ maxLen) (hrow : At w (pt a k) (cellsL l)) :
    Calls Tryd.prog 98 (List.toArray [.iface 74 (.slice a k c), .int .i64 i]) w fun e w' => e = .returned (.int .i64 (bestV l i : Nat)) ∧ Below w.heap.size w w' := by
  have BT := fun (x y : Nat) (hx : x < k) (hy : y < k) w hM hr => better_ l a k c x y w hM hs hk hx hy hd hr
  refine calls_of_exec env_ok Tryd.func98 rfl [] (schedQ_ok _ _ (by kernel_rfl)) [rowF (pt a k) (cellsL l)] (at1 hrow) ?_
  (conv => arg 5; whnf)
  refine wp_must ⟨by omega, by omega⟩ ?_
  (conv => arg 5; whnf)
  refine wp_must ⟨by omega, by omega⟩ ?_
  (conv => arg 5; whnf)
  refine loop_rule env_ok [] (schedQ_ok _ _ (by kernel_rfl)) (fun j : Nat => j ≤ 2) (fun j => (⟨[], [], [rowF (pt a k) (cellsL l)]⟩, sl 30 [(0, .v (.iface 74 (.slice a k c))), (1, .v (.int .i64 i)), (5, .v (.int .i64 (bst l i j : Nat))), (6, .v (.int .i64 (2 * (i : Int) + 1 + j)))])) (fun j => 2 - j) 0 (Nat.zero_le _) (by (try rw [show 2 * (i : Int) + 1 + ((0 : Nat) : Int) = 2 * (i : Int) + 1 by omega]); exact ⟨by repeat' first | exact trivial | refine ⟨.inl rfl, ?_⟩ | refine ⟨.inr rfl, ?_⟩, ⟨by repeat' first | exact trivial | refine ⟨.inl rfl, ?_⟩ | refine ⟨.inr rfl, ?_⟩, by repeat' first | exact trivial | refine ⟨.inl rfl, ?_⟩ | refine ⟨.inr rfl, ?_⟩, fun _ h => h⟩, rfl⟩) ?_
  intro j hj
  (conv => arg 5; whnf)
  refine wp_must ⟨by omega, by omega⟩ ?_
  (conv => arg 5; whnf)
  refine wp_must ⟨by omega, by omega⟩ ?_
  (conv => arg 5; whnf)
  refine wp_g1 (fun h1 => ?_) (fun h1 => ?_)
  · have hj1 : j ≤ 1 := by simp at h1; omega
    (conv => arg 5; whnf)
    refine meetc (v := .int .i64 k) rfl (by kernel_rfl) (fun β ρ w' hM' => len_ a k c w') ?_
    (conv => arg 5; whnf)
    refine wp_br (fun h2 => ?_) (fun h2 => ?_)
    · have hlt : 2 * i + 1 + j < k := by simp at h2; omega
      have hb : bst l i j < k := by rw [hk]; exact bst_lt (by omega) j
      have hst := bst_step (l := l) (i := i) hj1 (by omega)
      have ex : 2 * (i : Int) + 1 + j = ((2 * i + 1 + j : Nat) : Int) := by omega
      have B := BT (2 * i + 1 + j) (bst l i j) hlt hb
      rw [ex]
      (conv => arg 5; whnf)
      refine meetc (v := .bool (betterV (nx l (2 * i + 1 + j)) (nx l (bst l i j)))) rfl (by kernel_rfl) (fun β ρ w' hM' => B w' (hM.later hM'.below) (hM'.at_ (.head _))) ?_
      (conv => arg 5; whnf)
      refine wp_br (fun h3 => ?_) (fun h3 => ?_)
      · (conv => arg 5; whnf)
        refine wp_must ⟨by omega, by omega⟩ ?_
        (conv => arg 5; whnf)
        refine wp_end ⟨j + 1, by omega, (by rw [hst, if_pos h3, show 2 * (i : Int) + 1 + ((j + 1 : Nat) : Int) = ((2 * i + 1 + j : Nat) : Int) + 1 by omega]; exact ⟨by repeat' first | exact trivial | refine ⟨.inl rfl, ?_⟩ | refine ⟨.inr rfl, ?_⟩, ⟨by repeat' first | exact trivial | refine ⟨.inl rfl, ?_⟩ | refine ⟨.inr rfl, ?_⟩, by repeat' first | exact trivial | refine ⟨.inl rfl, ?_⟩ | refine ⟨.inr rfl, ?_⟩, fun _ h => h⟩, rfl⟩), by show 2 - (j + 1) < 2 - j; omega⟩
      · (conv => arg 5; whnf)
        refine wp_must ⟨by omega, by omega⟩ ?_
        (conv => arg 5; whnf)
        refine wp_end ⟨j + 1, by omega, (by rw [hst, if_neg (by rw [h3]; simp), show 2 * (i : Int) + 1 + ((j + 1 : Nat) : Int) = ((2 * i + 1 + j : Nat) : Int) + 1 by omega]; exact ⟨by repeat' first | exact trivial | refine ⟨.inl rfl, ?_⟩ | refine ⟨.inr rfl, ?_⟩, ⟨by repeat' first | exact trivial | refine ⟨.inl rfl, ?_⟩ | refine ⟨.inr rfl, ?_⟩, by repeat' first | exact trivial | refine ⟨.inl rfl, ?_⟩ | refine ⟨.inr rfl, ?_⟩, fun _ h => h⟩, rfl⟩), by show 2 - (j + 1) < 2 - j; omega⟩
    · (conv => arg 5; whnf)
      exact wp_back fun β ρ w' hM' => ⟨by rw [← bst_stop (l := l) (i := i) hj (.inr (by simp at h2; omega))]; rfl, hM'.below⟩
  · (conv => arg 5; whnf)
    exact wp_back fun β ρ w' hM' => ⟨by rw [← bst_stop (l := l) (i := i) hj (.inl (by simp at h1; omega))]; rfl, hM'.below⟩
theorem bestV_cases (l : List Tx) (i : Nat) : bestV l i = i ∨ (i < bestV l i ∧ bestV l i < l.length) := by
  unfold bestV best1
  by_cases h1 : 2 * i + 2 < l.length ∧ betterV (nx l (2 * i + 2)) (nx l (if 2 * i + 1 < l.length ∧ betterV (nx l (2 * i + 1)) (nx l i) = true then 2 * i + 1 else i)) = true
  · rw [if_pos h1]; have := h1.1; omega
  · rw [if_neg h1]
    split
    · rename_i h2; have := h2.1; omega
    · exact .inl rfl
/-- Who stands above a better one sinks. -/
def downGo : Nat → Nat → List Tx → Nat → List Tx
  | 0, _, l, _ => l
  | f + 1, k, l, i => if bestV (l.take k) i = i then l else downGo f k (swp l i (bestV (l.take k) i)) (bestV (l.take k) i)
def downL (k : Nat) (l : List Tx) : List Tx := downGo k k l 0
theorem downGo_enough (k : Nat) : ∀ (n i f : Nat) (l : List Tx), k - i = n → k - i ≤ f → downGo f k l i = downGo (k - i) k l i := by
  intro n
  induction n using Nat.strongRecOn with
  | ind n ih =>
    intro i f l hn hf
    have hc := bestV_cases (l.take k) i
    have hlen : (l.take k).length ≤ k := by rw [List.length_take]; omega
    cases f with
    | zero => rw [show k - i = 0 by omega]
    | succ f =>
      cases hki : k - i with
      | zero =>
        unfold downGo
        rw [if_pos (by omega)]
      | succ d =>
        unfold downGo
        split
        · rfl
        · rename_i hne
          have h2 := hc.resolve_left hne
          rw [ih (k - bestV (l.take k) i) (by omega) _ f _ rfl (by omega), ih (k - bestV (l.take k) i) (by omega) _ d _ rfl (by omega)]
theorem downGo_step (k : Nat) (l : List Tx) (i : Nat) (h : bestV (l.take k) i ≠ i) : downGo (k - i) k l i = downGo (k - bestV (l.take k) i) k (swp l i (bestV (l.take k) i)) (bestV (l.take k) i) := by
  have hc := (bestV_cases (l.take k) i).resolve_left h
  have hlen : (l.take k).length ≤ k := by rw [List.length_take]; omega
  cases hki : k - i with
  | zero => omega
  | succ d =>
    conv => lhs; unfold downGo
    rw [if_neg h]
    exact downGo_enough k _ _ _ _ rfl (by omega)
theorem downGo_stop (k : Nat) (l : List Tx) (i : Nat) (h : bestV (l.take k) i = i) : downGo (k - i) k l i = l := by
  cases hki : k - i with
  | zero => rfl
  | succ d => unfold downGo; rw [if_pos h]
theorem downGo_length : ∀ (f k : Nat) (l : List Tx) (i : Nat), (downGo f k l i).length = l.length
  | 0, k, l, i => rfl
  | f + 1, k, l, i => by
    unfold downGo
    split
    · rfl
    · rw [downGo_length, swp_length]
theorem downL_length (k : Nat) (l : List Tx) : (downL k l).length = l.length := downGo_length _ _ _ _
set_option maxHeartbeats 4000000 in
set_option maxRecDepth 100000 in
theorem down_ (l : List Tx) (rest : List Value) (g k c : Nat) (w : World) (hM : Most w) (hg0 : 0 < g) (hb : Blk w g l rest) (hs : Sl (some ⟨g, 0, none⟩) k c) (hkl : k ≤ l.length) (hk : l.length ≤ 1000000) (hd : ∀ x ∈ l, x.d.size ≤ maxLen) :
    Calls Tryd.prog 88 (List.toArray [.iface 74 (.slice (some ⟨g, 0, none⟩) k c)]) w fun e w' => e = .returned (.tuple #[]) ∧ w.grownBy w' (some g) ∧ Blk w' g (downL k l) rest := by
  have BT := fun (l' : List Tx) (hd : ∀ x ∈ l', x.d.size ≤ maxLen) (hl : l'.length = l.length) (i : Nat) (hi : i < k ∨ (i = 0 ∧ k = 0)) w hM (hb : Blk w g l' rest) => bestAt_ (l'.take k) (some ⟨g, 0, none⟩) k c i w hM hs (by rw [List.length_take]; omega) (by rw [List.length_take]; omega) hi (fun x hx => hd x (mem_take hx)) (hb.view k)
  refine calls_of_turn env_ok Tryd.func88 rfl [] (schedQ_ok _ _ (by kernel_rfl)) (some g) [blkF g l rest] hb.facts ?_
  (conv => arg 5; whnf)
  refine scope_rule env_ok [] 0 rfl (schedQ_ok _ _ (by kernel_rfl)) (schedQ_ok _ _ (by kernel_rfl)) (fun q : List Tx × Nat => (q.2 < k ∨ (q.2 = 0 ∧ k = 0)) ∧ q.1.length = l.length ∧ (∀ x ∈ q.1, x.d.size ≤ maxLen) ∧ downGo (k - q.2) k q.1 q.2 = downL k l) (fun q => (⟨[], [], [blkF g q.1 rest]⟩, sl 15 [(0, .v (.iface 74 (.slice (some ⟨g, 0, none⟩) k c))), (2, .v (.int .i64 q.2))])) (fun q => k - q.2) (k + 1) ?_ ?_
  · have hlen : l.length = l.length := rfl
    have hdl := hd
    have hup : downGo (k - 0) k l 0 = downL k l := rfl
    have hik : 0 < k ∨ ((0 : Nat) = 0 ∧ k = 0) := by omega
    have hcs := bestV_cases (l.take k) 0
    have hlt : (l.take k).length ≤ k := by rw [List.length_take]; omega
    have B := BT l hdl hlen 0 hik
    have S1 := downGo_stop k l 0
    have S2 := downGo_step k l 0
    generalize bestV (l.take k) 0 = b at *
    (conv => arg 5; whnf)
    refine meetc (v := .int .i64 (b : Nat)) rfl (by kernel_rfl) (fun β ρ w' hM' => B w' (Most.turned hM hM'.grown hg0) (blk hM' (.head _))) ?_
    (conv => arg 5; whnf)
    refine wp_br (fun h2 => ?_) (fun h2 => ?_)
    · (conv => arg 5; whnf)
      exact wp_back fun β ρ w' hM' => ⟨rfl, hM'.grown, by rw [← hup, S1 (by simp at h2; omega)]; exact blk hM' (.head _)⟩
    · have hne : b ≠ 0 := by simp at h2; omega
      have hcs := hcs.resolve_left hne
      (conv => arg 5; whnf)
      refine op_swap (i := 0) (j := b) (l := l) rfl rfl rfl (.head _) (.inr rfl) hs (by omega) (by omega) (by omega) ?_
      (conv => arg 5; whnf)
      refine wp_end ⟨rfl, (swp l 0 b, b), ⟨.inl (by show b < k; omega), (swp_length _ _ _).trans hlen, fun x hx => hdl x (swp_mem (by omega) (by omega) x hx), by rw [← hup, S2 hne]⟩, ⟨by repeat' first | exact trivial | refine ⟨.inl rfl, ?_⟩ | refine ⟨.inr rfl, ?_⟩, ⟨by repeat' first | exact trivial | refine ⟨.inl rfl, ?_⟩ | refine ⟨.inr rfl, ?_⟩, by repeat' first | exact trivial | refine ⟨.inl rfl, ?_⟩ | refine ⟨.inr rfl, ?_⟩, fun _ h => h⟩, rfl⟩, by show k - b < k + 1; omega⟩
  · rintro ⟨l', i⟩ ⟨hik, hlen, hdl, hup⟩
    have hik : i < k ∨ (i = 0 ∧ k = 0) := hik
    have hlen : l'.length = l.length := hlen
    have hdl : ∀ x ∈ l', x.d.size ≤ maxLen := hdl
    have hup : downGo (k - i) k l' i = downL k l := hup
    have hcs := bestV_cases (l'.take k) i
    have hlt : (l'.take k).length ≤ k := by rw [List.length_take]; omega
    have B := BT l' hdl hlen i hik
    have S1 := downGo_stop k l' i
    have S2 := downGo_step k l' i
    generalize bestV (l'.take k) i = b at *
    (conv => arg 5; whnf)
    refine meetc (v := .int .i64 (b : Nat)) rfl (by kernel_rfl) (fun β ρ w' hM' => B w' (Most.turned hM hM'.grown hg0) (blk hM' (.head _))) ?_
    (conv => arg 5; whnf)
    refine wp_br (fun h2 => ?_) (fun h2 => ?_)
    · (conv => arg 5; whnf)
      exact wp_back fun β ρ w' hM' => ⟨rfl, hM'.grown, by rw [← hup, S1 (by simp at h2; omega)]; exact blk hM' (.head _)⟩
    · have hne : b ≠ i := by simp at h2; omega
      have hcs := hcs.resolve_left hne
      (conv => arg 5; whnf)
      refine op_swap (i := i) (j := b) (l := l') rfl rfl rfl (.head _) (.inr rfl) hs (by omega) (by omega) (by omega) ?_
      (conv => arg 5; whnf)
      refine wp_end ⟨rfl, (swp l' i b, b), ⟨.inl (by show b < k; omega), (swp_length _ _ _).trans hlen, fun x hx => hdl x (swp_mem (by omega) (by omega) x hx), by rw [← hup, S2 hne]⟩, ⟨by repeat' first | exact trivial | refine ⟨.inl rfl, ?_⟩ | refine ⟨.inr rfl, ?_⟩, ⟨by repeat' first | exact trivial | refine ⟨.inl rfl, ?_⟩ | refine ⟨.inr rfl, ?_⟩, by repeat' first | exact trivial | refine ⟨.inl rfl, ?_⟩ | refine ⟨.inr rfl, ?_⟩, fun _ h => h⟩, rfl⟩, by show k - b < k - i; omega⟩
end Go.Proofs.YtjejjgoagjkfdaaDoor.heap
