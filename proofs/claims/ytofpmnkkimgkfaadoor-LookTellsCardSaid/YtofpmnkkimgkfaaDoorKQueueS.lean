/- Layer 5 (queue): the document's Advance, Ready, Txs and Same. -/
import Derived.Test.YtofpmnkkimgkfaaDoorKQueueR
set_option linter.all false
set_option maxHeartbeats 4000000
set_option maxRecDepth 100000
namespace Go.Proofs.YtofpmnkkimgkfaaDoor.queue
open Go.RowKit Sx txn
theorem advV_zero {b y : Int} (h : advV b y = 0) : inB y 0 4294967295 = true ∧ b ≤ y := by
 unfold advV at h
 cases h1 : inB y 0 4294967295 with
 | false => rw [if_pos h1] at h; omega
 | true =>
  rw [if_neg (by rw [h1]; simp)] at h
  by_cases h2 : y < b
  ·rw [if_pos h2] at h; omega
  ·exact ⟨rfl, by omega⟩
theorem radvance_ok (s b : Int) (l : List Tx) (a : Option Addr) (n c : Nat) (y : Int) (w : World) (hs : Sl a n c) (hn : n = l.length) (hrow : At w (pt a n) (cellsL l)) (hl : l.length ≤ 1000000) (he : advV b y = 0) :
  Calls Tryd.prog 55 (List.toArray [acc s b a n c, .int .i64 y]) w fun e w' => ∃ i : Two, (Sl i.1.1 (above y l).length i.1.2 ∧ Sl i.2.1 (below y l).length i.2.2) ∧ Gives w w' e (.tuple #[acc s y i.1.1 (above y l).length i.1.2, .slice i.2.1 (below y l).length i.2.2, .int .i64 0]) [rowF (pt i.1.1 (above y l).length) (cellsL (above y l)), rowF (pt i.2.1 (below y l).length) (cellsL (below y l))] := by
 obtain ⟨hb1, hb2⟩ := advV_zero he
 simp only [inB, Bool.and_eq_true, decide_eq_true_eq] at hb1
 have hn63 := hs.le
 refine calls_of_exec env_ok Tryd.func55 rfl [] (by kernel_rfl) [rowF (pt a n) (cellsL l)] (at1 hrow) ?_
 conv=>arg 5;whnf
 refine wp_br (fun h => ?_) (fun h => absurd h (by simp; omega))
 conv=>arg 5;whnf
 refine wp_br (fun h => absurd h (by simp; omega)) (fun h => ?_)
 conv=>arg 5;whnf
 refine wp_br (fun h => absurd h (by simp; omega)) (fun h => ?_)
 conv=>arg 5;whnf
 refine loop_nil 7 34 6 rfl ?_
 refine loop_nil 8 34 6 rfl ?_
 refine loop_rule env_ok [] (by kernel_rfl) (fun k : Nat => k ≤ n) (fun k => (⟨[some ([.v (.int .i64 s), .v (.int .i64 b), .v (.slice a n c)], 26), some ([.v (.int .i64 0), .v (.int .i64 0), .v (.slice none 0 0)], 26)], [some ⟨34, 6, (above y (l.take k)).length, cellsL (above y (l.take k))⟩, some ⟨34, 6, (below y (l.take k)).length, cellsL (below y (l.take k))⟩], [rowF (pt a n) (cellsL l)]⟩, sl 59 [(1, .v (.int .i64 y)), (2, .p 0 0), (4, .p 1 0), (5, .v (.slice none 0 0)), (6, .v (.int .i64 0)), (7, .r 0), (8, .r 1), (9, .v (.int .i64 k))])) (fun k => n - k) 0 (Nat.zero_le _) ⟨by repeat' first | exact trivial | refine ⟨.inl rfl, ?_⟩ | refine ⟨.inr rfl, ?_⟩, ⟨by repeat' first | exact trivial | refine ⟨.inl rfl, ?_⟩ | refine ⟨.inr rfl, ?_⟩, by repeat' first | exact trivial | refine ⟨.inl rfl, ?_⟩ | refine ⟨.inr rfl, ?_⟩, fun _ h => h⟩, rfl⟩ ?_
 intro k hk
 conv=>arg 5;whnf
 refine wp_br (fun h1 => ?_) (fun h1 => ?_)
 ·have hlt : k < n := by simp at h1; omega
  have hx : l[k]? = some l[k] := List.getElem?_eq_getElem (by omega)
  generalize l[k] = x at hx
  conv=>arg 5;whnf
  refine wp_must ⟨by omega, by omega, hs.some hlt⟩ ?_
  conv=>arg 5;whnf
  refine read1 (.int .i64 x.n) rfl (List.mem_cons_self) hlt (hs.some hlt) hx (f := 1) rfl rfl ?_
  conv=>arg 5;whnf
  refine wp_br (fun h2 => ?_) (fun h2 => ?_)
  ·have eo : below y (l.take (k + 1)) = below y (l.take k) ++ [x] := by unfold below; rw [filt_take _ l k x hx, if_pos (by simpa using h2)]
   have en : above y (l.take (k + 1)) = above y (l.take k) := by unfold above; rw [filt_take _ l k x hx, if_neg (by simpa using h2), List.append_nil]
   have ec : cellsL (below y (l.take (k + 1))) = cellsL (below y (l.take k)) ++ cellsX x := by rw [eo, cellsL_snoc]
   have el : (below y (l.take (k + 1))).length = (below y (l.take k)).length + 1 := by rw [eo]; simp
   have hlen : (below y (l.take k)).length ≤ l.length := filt_len _ l k
   conv=>arg 5;whnf
   refine wp_must ⟨by omega, by omega, hs.some hlt⟩ ?_
   conv=>arg 5;whnf
   refine readX (l := l) (k := k) rfl (List.mem_cons_self) hlt (hs.some hlt) hx rfl ?_
   conv=>arg 5;whnf
   refine wp_must ⟨by show (below y (l.take k)).length + 1 ≤ maxLen; have := hlen; unfold maxLen; omega, by show ((below y (l.take k)).length + 1) * 56 ≤ 140737488355328; have := hlen; omega⟩ ?_
   conv=>arg 5;whnf
   refine wp_must ⟨by omega, by omega⟩ ?_
   conv=>arg 5;whnf
   refine wp_end ⟨k + 1, hlt, ⟨by repeat' first | exact trivial | refine ⟨.inl rfl, ?_⟩ | refine ⟨.inr rfl, ?_⟩, ⟨by repeat' first | exact trivial | refine ⟨.inl rfl, ?_⟩ | refine ⟨.inr rfl, ?_⟩, by rw [ec, el, en]; repeat' first | exact trivial | refine ⟨.inl rfl, ?_⟩ | refine ⟨.inr rfl, ?_⟩, fun _ h => h⟩, rfl⟩, by show n - (k + 1) < n - k; omega⟩
  ·have eo : above y (l.take (k + 1)) = above y (l.take k) ++ [x] := by unfold above; rw [filt_take _ l k x hx, if_pos (by simpa using h2)]
   have en : below y (l.take (k + 1)) = below y (l.take k) := by unfold below; rw [filt_take _ l k x hx, if_neg (by simpa using h2), List.append_nil]
   have ec : cellsL (above y (l.take (k + 1))) = cellsL (above y (l.take k)) ++ cellsX x := by rw [eo, cellsL_snoc]
   have el : (above y (l.take (k + 1))).length = (above y (l.take k)).length + 1 := by rw [eo]; simp
   have hlen : (above y (l.take k)).length ≤ l.length := filt_len _ l k
   conv=>arg 5;whnf
   refine wp_must ⟨by omega, by omega, hs.some hlt⟩ ?_
   conv=>arg 5;whnf
   refine readX (l := l) (k := k) rfl (List.mem_cons_self) hlt (hs.some hlt) hx rfl ?_
   conv=>arg 5;whnf
   refine wp_must ⟨by show (above y (l.take k)).length + 1 ≤ maxLen; have := hlen; unfold maxLen; omega, by show ((above y (l.take k)).length + 1) * 56 ≤ 140737488355328; have := hlen; omega⟩ ?_
   conv=>arg 5;whnf
   refine wp_must ⟨by omega, by omega⟩ ?_
   conv=>arg 5;whnf
   refine wp_end ⟨k + 1, hlt, ⟨by repeat' first | exact trivial | refine ⟨.inl rfl, ?_⟩ | refine ⟨.inr rfl, ?_⟩, ⟨by repeat' first | exact trivial | refine ⟨.inl rfl, ?_⟩ | refine ⟨.inr rfl, ?_⟩, by rw [ec, el, en]; repeat' first | exact trivial | refine ⟨.inl rfl, ?_⟩ | refine ⟨.inr rfl, ?_⟩, fun _ h => h⟩, rfl⟩, by show n - (k + 1) < n - k; omega⟩
 ·have e1 : l.take k = l := List.take_of_length_le (by simp at h1; omega)
  rw [e1]
  conv=>arg 5;whnf
  refine wp_share fun a1 c1 hs1 hf1 => ?_
  conv=>arg 5;whnf
  refine wp_share fun a2 c2 hs2 hf2 => ?_
  conv=>arg 5;whnf
  refine wp_back fun β ρ w' hM' => ⟨((a1, c1), (a2, c2)), ⟨hs1, hs2⟩, rfl, hM'.below, ?_⟩
  intro φ hφ
  simp only [List.mem_cons, List.not_mem_nil, or_false] at hφ
  rcases hφ with rfl | rfl
  ·exact giveF _ hM' (List.mem_cons_of_mem _ List.mem_cons_self) hf1
  ·exact giveF _ hM' List.mem_cons_self hf2
theorem radvance_no (s b : Int) (a : Option Addr) (n c : Nat) (y : Int) (w : World) (he : advV b y ≠ 0) :
  Calls Tryd.prog 55 (List.toArray [acc s b a n c, .int .i64 y]) w fun e w' => e = .returned (.tuple #[acc s b a n c, .slice none 0 0, .int .i64 (advV b y)]) ∧ Below w.heap.size w w' := by
 refine calls_of_exec env_ok Tryd.func55 rfl [] (by kernel_rfl) [] (by simp) ?_
 by_cases h1 : y < 0
 ·have e1 : advV b y = 1 := if_pos (by simp [inB]; omega)
  rw [e1]
  conv=>arg 5;whnf
  refine wp_br (fun h => absurd h (by simp; omega)) (fun h => ?_)
  conv=>arg 5;whnf
  exact wp_back fun β ρ w' hM' => ⟨rfl, hM'.below⟩
 ·by_cases h2 : 4294967296 ≤ y
  ·have e1 : advV b y = 1 := if_pos (by simp [inB]; omega)
   rw [e1]
   conv=>arg 5;whnf
   refine wp_br (fun h => ?_) (fun h => absurd h (by simp; omega))
   conv=>arg 5;whnf
   refine wp_br (fun h => ?_) (fun h => absurd h (by simp; omega))
   conv=>arg 5;whnf
   exact wp_back fun β ρ w' hM' => ⟨rfl, hM'.below⟩
  ·have e0 : inB y 0 4294967295 = true := by simp [inB]; omega
   have h3 : y < b := by
    by_cases h3 : y < b
    ·exact h3
    ·exact absurd (by unfold advV; rw [if_neg (by rw [e0]; simp), if_neg h3]) he
   have e1 : advV b y = 3 := by unfold advV; rw [if_neg (by rw [e0]; simp), if_pos h3]
   rw [e1]
   conv=>arg 5;whnf
   refine wp_br (fun h => ?_) (fun h => absurd h (by simp; omega))
   conv=>arg 5;whnf
   refine wp_br (fun h => absurd h (by simp; omega)) (fun h => ?_)
   conv=>arg 5;whnf
   refine wp_br (fun h => ?_) (fun h => absurd h (by simp; omega))
   conv=>arg 5;whnf
   exact wp_back fun β ρ w' hM' => ⟨rfl, hM'.below⟩
theorem neq_same (x y : Operand) (t : Tx) (w : World) : (do eqGuard .neq 34 x y t.val t.val; pure (Next.value (← binOp .neq 34 t.val t.val)) : Sem Next).run Tryd.prog w = .ok (.value (.bool false)) w := by
 simp [Tx.val, eqGuard, go_sem]
theorem rtxs (l : List Tx) (a : Option Addr) (n c : Nat) (a2 : Option Addr) (c2 : Nat) (w : World) (hs : Sl a n c) (hn : n = l.length) (hrow : At w (pt a n) (cellsL l)) (hs2 : Sl a2 n c2) (hrow2 : At w (pt a2 n) (cellsL l)) :
  Calls Tryd.prog 44 (List.toArray [.slice a n c, .slice a2 n c2]) w fun e w' => e = .returned (.bool true) ∧ Below w.heap.size w w' := by
 have hn63 := hs.le
 have hF : ∀ φ ∈ [rowF (pt a n) (cellsL l), rowF (pt a2 n) (cellsL l)], ∀ g, φ.g = some g → ∃ o, w.heap[g]? = some o ∧ φ.holds o := by
  intro φ hφ
  simp only [List.mem_cons, List.not_mem_nil, or_false] at hφ
  rcases hφ with rfl | rfl
  ·exact hrow
  ·exact hrow2
 refine calls_of_exec env_ok Tryd.func44 rfl [(6, (line [0, 1, 2, 3, 4, 5, 6, 7, 8], []))] (by kernel_rfl) [rowF (pt a n) (cellsL l), rowF (pt a2 n) (cellsL l)] hF ?_
 conv=>arg 5;whnf
 refine wp_br (fun h => absurd h (by simp)) (fun h => ?_)
 conv=>arg 5;whnf
 refine loop_rule env_ok [(6, (line [0, 1, 2, 3, 4, 5, 6, 7, 8], []))] (by kernel_rfl) (fun k : Nat => k ≤ n) (fun k => (⟨[], [], [rowF (pt a n) (cellsL l), rowF (pt a2 n) (cellsL l)]⟩, sl 26 [(0, .v (.slice a n c)), (1, .v (.slice a2 n c2)), (4, .v (.bool false)), (5, .v (.int .i64 k))])) (fun k => n - k) 0 (Nat.zero_le _) ⟨by repeat' first | exact trivial | refine ⟨.inl rfl, ?_⟩ | refine ⟨.inr rfl, ?_⟩, ⟨by repeat' first | exact trivial | refine ⟨.inl rfl, ?_⟩ | refine ⟨.inr rfl, ?_⟩, by repeat' first | exact trivial | refine ⟨.inl rfl, ?_⟩ | refine ⟨.inr rfl, ?_⟩, fun _ h => h⟩, rfl⟩ ?_
 intro k hk
 conv=>arg 5;whnf
 refine wp_br (fun h1 => ?_) (fun h1 => ?_)
 ·have hlt : k < n := by simp at h1; omega
  have hx : l[k]? = some l[k] := List.getElem?_eq_getElem (by omega)
  generalize l[k] = x at hx
  conv=>arg 5;whnf
  refine wp_must ⟨by omega, by omega, hs.some hlt⟩ ?_
  conv=>arg 5;whnf
  refine readX (l := l) (k := k) rfl (List.mem_cons_self) hlt (hs.some hlt) hx rfl ?_
  conv=>arg 5;whnf
  refine wp_must ⟨by omega, by omega, hs2.some hlt⟩ ?_
  conv=>arg 5;whnf
  refine readX (l := l) (k := k) rfl (List.mem_cons_of_mem _ List.mem_cons_self) hlt (hs2.some hlt) hx rfl ?_
  conv=>arg 5;whnf
  refine wp_prim (.bool false) (fun w => neq_same _ _ x w) ?_
  conv=>arg 5;whnf
  refine wp_must ⟨by omega, by omega⟩ ?_
  conv=>arg 5;whnf
  refine wp_end ⟨k + 1, hlt, ⟨by repeat' first | exact trivial | refine ⟨.inl rfl, ?_⟩ | refine ⟨.inr rfl, ?_⟩, ⟨by repeat' first | exact trivial | refine ⟨.inl rfl, ?_⟩ | refine ⟨.inr rfl, ?_⟩, by repeat' first | exact trivial | refine ⟨.inl rfl, ?_⟩ | refine ⟨.inr rfl, ?_⟩, fun _ h => h⟩, rfl⟩, by show n - (k + 1) < n - k; omega⟩
 ·(conv => arg 5; whnf)
  exact wp_back fun β ρ w' hM' => ⟨rfl, hM'.below⟩
theorem rsame (s b : Int) (l : List Tx) (a : Option Addr) (n c : Nat) (a2 : Option Addr) (c2 : Nat) (w : World) (hs : Sl a n c) (hn : n = l.length) (hrow : At w (pt a n) (cellsL l)) (hs2 : Sl a2 n c2) (hrow2 : At w (pt a2 n) (cellsL l)) :
  Calls Tryd.prog 21 (List.toArray [acc s b a n c, acc s b a2 n c2]) w fun e w' => e = .returned (.bool true) ∧ Below w.heap.size w w' := by
 have hF : ∀ φ ∈ [rowF (pt a n) (cellsL l), rowF (pt a2 n) (cellsL l)], ∀ g, φ.g = some g → ∃ o, w.heap[g]? = some o ∧ φ.holds o := by
  intro φ hφ
  simp only [List.mem_cons, List.not_mem_nil, or_false] at hφ
  rcases hφ with rfl | rfl
  ·exact hrow
  ·exact hrow2
 refine calls_of_exec env_ok Tryd.func21 rfl [] (by kernel_rfl) [rowF (pt a n) (cellsL l), rowF (pt a2 n) (cellsL l)] hF ?_
 conv=>arg 5;whnf
 refine wp_br (fun h => ?_) (fun h => absurd h (by simp))
 conv=>arg 5;whnf
 refine wp_br (fun h => ?_) (fun h => absurd h (by simp))
 conv=>arg 5;whnf
 refine meetc rfl (by kernel_rfl) (fun β ρ w' hM' => rtxs l a n c a2 c2 w' hs hn (hM'.at_ List.mem_cons_self) hs2 (hM'.at_ (List.mem_cons_of_mem _ List.mem_cons_self))) ?_
 conv=>arg 5;whnf
 exact wp_back fun β ρ w' hM' => ⟨rfl, hM'.below⟩
end Go.Proofs.YtofpmnkkimgkfaaDoor.queue
