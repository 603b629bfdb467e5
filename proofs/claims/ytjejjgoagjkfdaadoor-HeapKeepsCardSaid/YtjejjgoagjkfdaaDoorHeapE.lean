/- Layer 6 (heap): one more; a heap of any. -/
import Derived.Test.YtjejjgoagjkfdaaDoorHeapD
namespace Go.Proofs.YtjejjgoagjkfdaaDoor.heap
open Go.RowKit Sx txn queue
set_option linter.unusedVariables false
set_option linter.unusedSimpArgs false
theorem upGo_mem : ∀ (f : Nat) (l : List Tx) (i : Nat), i < l.length → ∀ x ∈ upGo f l i, x ∈ l
  | 0, l, i, _, x, hx => hx
  | f + 1, l, i, hi, x, hx => by
    unfold upGo at hx
    split at hx
    · exact hx
    · split at hx
      · exact swp_mem hi (by omega) x (upGo_mem f _ _ (by rw [swp_length]; omega) x hx)
      · exact hx
theorem upL_mem {l : List Tx} {k : Nat} (h1 : 1 ≤ k) (hk : k ≤ l.length) : ∀ x ∈ upL k l, x ∈ l := upGo_mem k l (k - 1) (by omega)
theorem own_of_blk {w : World} {base g : Nat} {l : List Tx} {rest : List Value} {n c : Nat} (hb : Blk w g l rest) (hg : base ≤ g) (hn : n = l.length) (hc : n ≤ c) (hm : c ≤ maxLen) (hlen : (cellsL l).length + rest.length = c * 6) :
    w.ownsRow base 28 6 (.slice (some ⟨g, 0, none⟩) n c) n (cellsL l) := by
  refine ⟨by rw [cellsL_length, hn], .inr ⟨g, c, _, rfl, hg, hb, hc, hm, by simp; omega, ?_⟩⟩
  rw [List.toList_toArray, List.take_append_of_le_length (by rw [cellsL_length, hn]; omega), List.take_of_length_le (by rw [cellsL_length, hn]; omega)]
/-- One more. -/
def pushL (l : List Tx) (t : Tx) : List Tx := upL (l ++ [t]).length (l ++ [t])
theorem pushL_length (l : List Tx) (t : Tx) : (pushL l t).length = l.length + 1 := by unfold pushL; rw [upL_length]; simp
theorem pushL_mem {l : List Tx} {t : Tx} : ∀ x ∈ pushL l t, x ∈ l ++ [t] := upL_mem (by simp) (Nat.le_refl _)
set_option maxHeartbeats 4000000 in
set_option maxRecDepth 100000 in
theorem push_ (t : Tx) (hdt : t.d.size ≤ maxLen) (l : List Tx) (a : Option Addr) (n c : Nat) (w : World) (hM : Most w) (hs : Sl a n c) (hn : n = l.length) (hl : l.length ≤ 100000) (hd : ∀ x ∈ l, x.d.size ≤ maxLen) (hrow : At w (pt a n) (cellsL l)) :
    Calls Tryd.prog 46 (List.toArray [.slice a n c, t.val]) w fun e w' => ∃ v, e = .returned v ∧ Below w.heap.size w w' ∧ w'.ownsRow w.heap.size 28 6 v (l.length + 1) (cellsL (pushL l t)) := by
  refine calls_of_exec (env_ok.open_ [60, 76] false) Tryd.func46 rfl [] (schedQ_ok _ _ (by kernel_rfl)) [rowF (pt a n) (cellsL l)] (at1 hrow) ?_
  (conv => arg 5; whnf)
  refine wp_share fun A1 C1 hS1 hF1 => ?_
  (conv => arg 5; whnf)
  refine wp_share fun A2 C2 hS2 hF2 => ?_
  (conv => arg 5; whnf)
  refine op_fresh (e := 28) (size := 6) (n := (l ++ [t]).length) (xs := cellsL (l ++ [t])) rfl rfl (by kernel_rfl) (fun β ρ w' hM' => ?_) (fun h => by simp at h) (fun g cp rest hg hnc hcm hlen => ?_)
  · have h1 := concat [⟨a, n, c, l⟩, ⟨A1, 1, C1, [t]⟩] A2 2 C2 w' hS2 rfl (hM'.at_ (.head _)) (by
      intro x hx
      simp only [List.mem_cons, List.not_mem_nil, or_false] at hx
      rcases hx with rfl | rfl
      · exact ⟨hs, hn, hM'.at_ (.tail _ (.tail _ (.head _)))⟩
      · exact ⟨hS1, rfl, hM'.at_ (.tail _ (.head _))⟩) (by simp [flat]; omega)
    rw [show flat _ = l ++ [t] from by simp [flat]] at h1
    exact h1
  · have hg0 : 0 < g := by have := hM.2.2.2.2.2; omega
    have hp : pushL l t = upL (l ++ [t]).length (l ++ [t]) := rfl
    have hlp := pushL_length l t
    have hd2 : ∀ x ∈ l ++ [t], x.d.size ≤ maxLen := fun x hx => by
      rcases List.mem_append.1 hx with hx | hx
      · exact hd x hx
      · simp only [List.mem_singleton] at hx; subst hx; exact hdt
    have hlen2 : (l ++ [t]).length = l.length + 1 := by simp
    have hcl : (cellsL (pushL l t)).length = (cellsL (l ++ [t])).length := by rw [cellsL_length, cellsL_length, hlp, hlen2]
    have UP := fun w hM hb => up_ (l ++ [t]) rest g (l ++ [t]).length cp w hM hg0 hb ⟨hnc, hcm, fun h => by cases h⟩ (by omega) (Nat.le_refl _) (by omega) hd2
    rw [← hp] at UP
    (conv => arg 5; whnf)
    refine wp_prim (.iface 74 (.slice (some ⟨g, 0, none⟩) (l ++ [t]).length cp)) (fun w => by kernel_rfl) ?_
    (conv => arg 5; whnf)
    refine op_turn (g := g) (φ := blkF g (l ++ [t]) rest) rfl rfl (by kernel_rfl) (.head _) rfl (.inl hg) (fun F h => by cases h) (fun β ρ w' hM' => (UP w' (hM.later hM'.below) (blk hM' (.head _))).mono fun e w2 ⟨he, hgr, hb2⟩ => ⟨_, [blkF g (pushL l t) rest], he, hgr, (fun ψ hψ => by (simp only [List.mem_singleton] at hψ; subst hψ; exact .inr ⟨rfl, _, hb2, rfl⟩)), ?_⟩)
    (conv => arg 5; whnf)
    exact wp_back fun β ρ w3 hM3 => ⟨_, rfl, hM3.below, by have h := own_of_blk (n := (l ++ [t]).length) (blk hM3 (.head _)) hg (by omega) hnc hcm (by omega); rw [hlen2] at h ⊢; exact h⟩
/-- A heap of any. -/
def makeTo (l : List Tx) : Nat → List Tx
  | 0 => l
  | k + 1 => upL (k + 1) (makeTo l k)
def makeL (l : List Tx) : List Tx := makeTo l l.length
theorem makeTo_length (l : List Tx) : ∀ k, (makeTo l k).length = l.length
  | 0 => rfl
  | k + 1 => by unfold makeTo; rw [upL_length, makeTo_length l k]
theorem makeTo_mem (l : List Tx) : ∀ k, k ≤ l.length → ∀ x ∈ makeTo l k, x ∈ l
  | 0, _, x, hx => hx
  | k + 1, hk, x, hx => makeTo_mem l k (by omega) x (upL_mem (by omega) (by rw [makeTo_length]; omega) x hx)
theorem makeL_length (l : List Tx) : (makeL l).length = l.length := makeTo_length _ _
set_option maxHeartbeats 4000000 in
set_option maxRecDepth 100000 in
theorem make_ (l : List Tx) (a : Option Addr) (n c : Nat) (w : World) (hM : Most w) (hs : Sl a n c) (hn : n = l.length) (hl : l.length ≤ 100000) (hd : ∀ x ∈ l, x.d.size ≤ maxLen) (hrow : At w (pt a n) (cellsL l)) :
    Calls Tryd.prog 48 (List.toArray [.slice a n c]) w fun e w' => ∃ v, e = .returned v ∧ Below w.heap.size w w' ∧ w'.ownsRow w.heap.size 28 6 v n (cellsL (makeL l)) := by
  refine calls_of_exec (env_ok.open_ [67, 76] false) Tryd.func48 rfl [] (schedQ_ok _ _ (by kernel_rfl)) [rowF (pt a n) (cellsL l)] (at1 hrow) ?_
  (conv => arg 5; whnf)
  refine op_fresh (e := 28) (size := 6) (n := n) (xs := cellsL l) rfl rfl (by kernel_rfl) (fun β ρ w' hM' => clone l a n c w' hs hn (hM'.at_ (.head _)) (by omega)) (fun h => ?_) (fun g cp rest hg hnc hcm hlen => ?_)
  · have hl0 : l = [] := List.eq_nil_of_length_eq_zero (by omega)
    subst hl0 h
    (conv => arg 5; whnf)
    refine loop_rule (env_ok.open_ [67, 76] false) [] (schedQ_ok _ _ (by kernel_rfl)) (fun k : Nat => k = 0) (fun k => (⟨[], [], []⟩, sl 20 [(3, .v (.slice none 0 0)), (8, .v (.int .i64 0)), (9, .v (.int .i64 0))])) (fun k => 0) 0 rfl ⟨by repeat' first | exact trivial | refine ⟨.inl rfl, ?_⟩ | refine ⟨.inr rfl, ?_⟩, ⟨by repeat' first | exact trivial | refine ⟨.inl rfl, ?_⟩ | refine ⟨.inr rfl, ?_⟩, by repeat' first | exact trivial | refine ⟨.inl rfl, ?_⟩ | refine ⟨.inr rfl, ?_⟩, fun φ h => by cases h⟩, rfl⟩ ?_
    intro k hk
    (conv => arg 5; whnf)
    exact wp_back fun β ρ w3 hM3 => ⟨_, rfl, hM3.below, rfl, .inl ⟨rfl, rfl⟩⟩
  · have hg0 : 0 < g := by have := hM.2.2.2.2.2; omega
    have hcpc := hcm
    unfold maxLen at hcpc
    (conv => arg 5; whnf)
    refine loop_rule (env_ok.open_ [67, 76] false) [] (schedQ_ok _ _ (by kernel_rfl)) (fun k : Nat => k ≤ n) (fun k => (⟨[], [], [blkF g (makeTo l k) rest]⟩, sl 20 [(3, .v (.slice (some ⟨g, 0, none⟩) n cp)), (8, .v (.int .i64 n)), (9, .v (.int .i64 k))])) (fun k => n - k) 0 (Nat.zero_le _) ⟨by repeat' first | exact trivial | refine ⟨.inl rfl, ?_⟩ | refine ⟨.inr rfl, ?_⟩, ⟨by repeat' first | exact trivial | refine ⟨.inl rfl, ?_⟩ | refine ⟨.inr rfl, ?_⟩, by repeat' first | exact trivial | refine ⟨.inl rfl, ?_⟩ | refine ⟨.inr rfl, ?_⟩, fun φ h => by (simp only [List.mem_singleton] at h; subst h; exact .head _)⟩, rfl⟩ ?_
    intro k hk
    (conv => arg 5; whnf)
    refine wp_br (fun h1 => ?_) (fun h1 => ?_)
    · have hlt : k < n := by simp at h1; omega
      have ek : (k : Int) + 1 = ((k + 1 : Nat) : Int) := by omega
      have hmt : makeTo l (k + 1) = upL (k + 1) (makeTo l k) := rfl
      have UP := fun w hM hb => up_ (makeTo l k) rest g (k + 1) cp w hM hg0 hb ⟨by omega, hcm, fun h => by cases h⟩ (by omega) (by rw [makeTo_length]; omega) (by rw [makeTo_length]; omega) (fun x hx => hd x (makeTo_mem l k (by omega) x hx))
      rw [← hmt] at UP
      (conv => arg 5; whnf)
      refine wp_must ⟨by omega, by omega⟩ ?_
      rw [ek]
      (conv => arg 5; whnf)
      refine wp_prim (.slice (some ⟨g, 0, none⟩) (k + 1) cp) (fun w => slice_to (some ⟨g, 0, none⟩) n cp (k + 1) w (by omega)) ?_
      (conv => arg 5; whnf)
      refine wp_prim (.iface 74 (.slice (some ⟨g, 0, none⟩) (k + 1) cp)) (fun w => by kernel_rfl) ?_
      (conv => arg 5; whnf)
      refine op_turn (g := g) (φ := blkF g (makeTo l k) rest) rfl rfl (by kernel_rfl) (.head _) rfl (.inl hg) (fun F h => by cases h) (fun β ρ w' hM' => (UP w' (hM.later hM'.below) (blk hM' (.head _))).mono fun e w2 ⟨he, hgr, hb2⟩ => ⟨_, [blkF g (makeTo l (k + 1)) rest], he, hgr, (fun ψ hψ => by (simp only [List.mem_singleton] at hψ; subst hψ; exact .inr ⟨rfl, _, hb2, rfl⟩)), ?_⟩)
      (conv => arg 5; whnf)
      refine wp_must ⟨by omega, by omega⟩ ?_
      (conv => arg 5; whnf)
      refine wp_end ⟨k + 1, hlt, ⟨by repeat' first | exact trivial | refine ⟨.inl rfl, ?_⟩ | refine ⟨.inr rfl, ?_⟩, ⟨by repeat' first | exact trivial | refine ⟨.inl rfl, ?_⟩ | refine ⟨.inr rfl, ?_⟩, by repeat' first | exact trivial | refine ⟨.inl rfl, ?_⟩ | refine ⟨.inr rfl, ?_⟩, fun _ h => h⟩, rfl⟩, by show n - (k + 1) < n - k; omega⟩
    · have hkn : k = l.length := by simp at h1; omega
      have hml : makeTo l k = makeL l := by unfold makeL; rw [hkn]
      have hmll := makeL_length l
      (conv => arg 5; whnf)
      exact wp_back fun β ρ w3 hM3 => ⟨_, rfl, hM3.below, own_of_blk (by rw [← hml]; exact blk hM3 (.head _)) hg (by omega) hnc hcm (by rw [cellsL_length] at hlen ⊢; omega)⟩
end Go.Proofs.YtjejjgoagjkfdaaDoor.heap
