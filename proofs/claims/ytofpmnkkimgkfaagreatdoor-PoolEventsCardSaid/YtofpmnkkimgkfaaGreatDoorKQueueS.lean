/- Layer 5 (queue): the document's Advance, Ready, Txs and Same. -/
import Derived.Test.YtofpmnkkimgkfaaGreatDoorKQueueR
set_option linter.all false
set_option maxHeartbeats 4000000
set_option maxRecDepth 100000
namespace Go.Proofs.YtofpmnkkimgkfaaGreatDoor.queue
open Go.RowKit Sx txn
theorem advV_zero {b y : Int} (h : advV b y = 0) : inB y 0 4294967295 = true ∧ b ≤ y := by
 unfold advV at h
 cases h1 : inB y 0 4294967295 with
 | false => rw [if_pos h1] at h; omega
 | true =>
  rw [if_neg (by rw [h1]; simp)] at h
  by_cases h2 : y < b
  ·rw [if_pos h2] at h; omega
  ·exact ⟨rfl, by omega⟩
theorem neq_same (x y : Operand) (t : Tx) (w : World) : (do eqGuard .neq 31 x y t.val t.val; pure (Next.value (← binOp .neq 31 t.val t.val)) : Sem Next).run Tryz.prog w = .ok (.value (.bool false)) w := by
 simp [Tx.val, eqGuard, go_sem]
theorem rtxs (l : List Tx) (a : Option Addr) (n c : Nat) (a2 : Option Addr) (c2 : Nat) (w : World) (hs : Sl a n c) (hn : n = l.length) (hrow : At w (pt a n) (cellsL l)) (hs2 : Sl a2 n c2) (hrow2 : At w (pt a2 n) (cellsL l)) :
  Calls Tryz.prog 31 (List.toArray [.slice a n c, .slice a2 n c2]) w fun e w' => e = .returned (.bool true) ∧ Below w.heap.size w w' := by
 have hn63 := hs.le
 have hF : ∀ φ ∈ [rowF (pt a n) (cellsL l), rowF (pt a2 n) (cellsL l)], ∀ g, φ.g = some g → ∃ o, w.heap[g]? = some o ∧ φ.holds o := by
  intro φ hφ
  simp only [List.mem_cons, List.not_mem_nil, or_false] at hφ
  rcases hφ with rfl | rfl
  ·exact hrow
  ·exact hrow2
 refine calls_of_exec env_ok Tryz.func31 rfl [(6, (line [0, 1, 2, 3, 4, 5, 6, 7, 8], []))] (by kernel_rfl) [rowF (pt a n) (cellsL l), rowF (pt a2 n) (cellsL l)] hF ?_
 conv=>arg 5;whnf
 refine wp_br (fun h => absurd h (by simp)) (fun h => ?_)
 conv=>arg 5;whnf
 refine loop_rule env_ok [(6, (line [0, 1, 2, 3, 4, 5, 6, 7, 8], []))] (by kernel_rfl) (fun k : Nat => k ≤ n) (fun k => (⟨[], [], [rowF (pt a n) (cellsL l), rowF (pt a2 n) (cellsL l)]⟩, sl 26 [(0, .v (.slice a n c)), (1, .v (.slice a2 n c2)), (4, .v (.bool false)), (5, .v (.int .i64 k))])) (fun k => n - k) 0 (Nat.zero_le _) ⟨by repeat' first | exact trivial | refine ⟨.inl rfl, ?_⟩ | refine ⟨.inr rfl, ?_⟩, ⟨by repeat' first | exact trivial | refine ⟨.inl rfl, ?_⟩ | refine ⟨.inr rfl, ?_⟩, by repeat' first | exact trivial | refine ⟨.inl rfl, ?_⟩ | refine ⟨.inr rfl, ?_⟩, fun _ h => h⟩, rfl⟩ ?_
 intro k hk
 conv=>arg 5;whnf
 refine wp_br (fun h1 => ?_) (fun h1 => ?_)
 ·have hlt : k < n := by simp at h1; omega
  have hx : l[k]? = some l[k] := List.getElem?_eq_getElem (by omega)
  generalize l[k] = x at hx
  conv=>arg 5;whnf
  refine wp_must ⟨by omega, by omega, hs.some hlt⟩ ?_
  conv=>arg 5;whnf
  refine readX (l := l) (k := k) rfl (List.mem_cons_self) hlt (hs.some hlt) hx rfl ?_
  conv=>arg 5;whnf
  refine wp_must ⟨by omega, by omega, hs2.some hlt⟩ ?_
  conv=>arg 5;whnf
  refine readX (l := l) (k := k) rfl (List.mem_cons_of_mem _ List.mem_cons_self) hlt (hs2.some hlt) hx rfl ?_
  conv=>arg 5;whnf
  refine wp_prim (.bool false) (fun w => neq_same _ _ x w) ?_
  conv=>arg 5;whnf
  refine wp_must ⟨by omega, by omega⟩ ?_
  conv=>arg 5;whnf
  refine wp_end ⟨k + 1, hlt, ⟨by repeat' first | exact trivial | refine ⟨.inl rfl, ?_⟩ | refine ⟨.inr rfl, ?_⟩, ⟨by repeat' first | exact trivial | refine ⟨.inl rfl, ?_⟩ | refine ⟨.inr rfl, ?_⟩, by repeat' first | exact trivial | refine ⟨.inl rfl, ?_⟩ | refine ⟨.inr rfl, ?_⟩, fun _ h => h⟩, rfl⟩, by show n - (k + 1) < n - k; omega⟩
 ·(conv => arg 5; whnf)
  exact wp_back fun β ρ w' hM' => ⟨rfl, hM'.below⟩
end Go.Proofs.YtofpmnkkimgkfaaGreatDoor.queue
