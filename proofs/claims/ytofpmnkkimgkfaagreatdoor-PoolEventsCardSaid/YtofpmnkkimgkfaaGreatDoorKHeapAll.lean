/- Layer 6 (heap): what a row is asked, by contract. -/
import Derived.Test.YtofpmnkkimgkfaaGreatDoorKSxx
import Derived.Test.YtofpmnkkimgkfaaGreatDoorKOrd
import Derived.Test.YtofpmnkkimgkfaaGreatDoorKQueueS
import Derived.Test.YtofpmnkkimgkfaaGreatDoorKMeet2
set_option linter.all false
set_option maxHeartbeats 4000000
set_option maxRecDepth 100000
namespace Go.Proofs.YtofpmnkkimgkfaaGreatDoor.heap
open Go.RowKit Sx txn queue
def nx (l : List Tx) (i : Nat) : Tx := l.getD i tx0
theorem nx_get {l : List Tx} {i : Nat} (h : i < l.length) : l[i]? = some (nx l i) := by
 unfold nx
 rw [List.getD_eq_getElem?_getD, List.getElem?_eq_getElem h]
 rfl
theorem nx_mem {l : List Tx} {i : Nat} (h : i < l.length) : nx l i ∈ l := List.mem_of_getElem? (nx_get h)
end Go.Proofs.YtofpmnkkimgkfaaGreatDoor.heap
namespace Go.Proofs.YtofpmnkkimgkfaaGreatDoor.heap
open Go.RowKit Sx txn queue
theorem cellsX_one (x : Tx) : ∀ z ∈ (x.val.cells).toList, z.oneCell' = true := by
 intro z hz
 simp [Tx.val, Value.cells] at hz
 rcases hz with rfl | rfl | rfl | rfl | rfl | rfl <;> rfl
end Go.Proofs.YtofpmnkkimgkfaaGreatDoor.heap
namespace Go.Proofs.YtofpmnkkimgkfaaGreatDoor.heap
open Go.RowKit Sx txn queue
end Go.Proofs.YtofpmnkkimgkfaaGreatDoor.heap
namespace Go.Proofs.YtofpmnkkimgkfaaGreatDoor.heap
open Go.RowKit Sx txn queue
end Go.Proofs.YtofpmnkkimgkfaaGreatDoor.heap
namespace Go.Proofs.YtofpmnkkimgkfaaGreatDoor.heap
open Go.RowKit Sx txn queue
def worstTo (l : List Tx) : Nat → Nat
 | 0 => 0
 | k + 1 => if betterV (nx l (worstTo l k)) (nx l k) = true then k else worstTo l k
theorem worstTo_lt (l : List Tx) : ∀ k, worstTo l k ≤ k - 1
 | 0 => Nat.le_refl _
 | k + 1 => by
  have := worstTo_lt l k
  unfold worstTo
  split <;> omega
theorem worst_ (l : List Tx) (a : Option Addr) (n c : Nat) (w : World) (hM : Most w) (hs : Sl a n c) (hn : n = l.length) (hl : l.length ≤ 100000) (hd : ∀ x ∈ l, x.d.size ≤ maxLen) (hrow : At w (pt a n) (cellsL l)) :
  Calls Tryz.prog 194 (List.toArray [.slice a n c]) w fun e w' => e = .returned (.tuple #[.int .i64 (worstTo l n : Nat), .bool (decide (0 < n))]) ∧ Below w.heap.size w w' := by
 have hn63 := hs.le
 refine calls_of_exec env_ok Tryz.func194 rfl [(5, (line [0, 1, 2, 3, 4, 5, 6, 7, 8], []))] (schedQ_ok _ _ (by kernel_rfl)) [rowF (pt a n) (cellsL l)] (at1 hrow) ?_
 conv=>arg 5;whnf
 refine loop_rule env_ok [(5, (line [0, 1, 2, 3, 4, 5, 6, 7, 8], []))] (schedQ_ok _ _ (by kernel_rfl)) (fun k : Nat => k ≤ n) (fun k => (⟨[], [], [rowF (pt a n) (cellsL l)]⟩, sl 26 [(0, .v (.slice a n c)), (2, .v (.int .i64 0)), (3, .v (.bool false)), (4, .v (.int .i64 (worstTo l k : Nat))), (6, .v (.slice a n c)), (7, .v (.int .i64 n)), (8, .v (.int .i64 k))])) (fun k => n - k) 0 (Nat.zero_le _) ⟨by repeat' first | exact trivial | refine ⟨.inl rfl, ?_⟩ | refine ⟨.inr rfl, ?_⟩, ⟨by repeat' first | exact trivial | refine ⟨.inl rfl, ?_⟩ | refine ⟨.inr rfl, ?_⟩, by repeat' first | exact trivial | refine ⟨.inl rfl, ?_⟩ | refine ⟨.inr rfl, ?_⟩, fun _ h => h⟩, rfl⟩ ?_
 intro k hk
 conv=>arg 5;whnf
 refine wp_br (fun h1 => ?_) (fun h1 => ?_)
 ·have hlt : k < n := by simp at h1; omega
  have hw := worstTo_lt l k
  have hx := nx_get (l := l) (i := worstTo l k) (by omega)
  have hy := nx_get (l := l) (i := k) (by omega)
  have hlw : worstTo l k < n := by omega
  have hst : worstTo l (k + 1) = if betterV (nx l (worstTo l k)) (nx l k) = true then k else worstTo l k := rfl
  have B := fun w hM => better (nx l (worstTo l k)) (nx l k) w hM (hd _ (nx_mem (by omega))) (hd _ (nx_mem (by omega)))
  conv=>arg 5;whnf
  refine wp_must ⟨by omega, by omega, hs.some hlw⟩ ?_
  conv=>arg 5;whnf
  refine readX (l := l) (k := worstTo l k) rfl List.mem_cons_self hlw (hs.some hlw) hx rfl ?_
  conv=>arg 5;whnf
  refine wp_must ⟨by omega, by omega, hs.some hlt⟩ ?_
  conv=>arg 5;whnf
  refine readX (l := l) (k := k) rfl List.mem_cons_self hlt (hs.some hlt) hy rfl ?_
  conv=>arg 5;whnf
  refine meetc (v := .bool (betterV (nx l (worstTo l k)) (nx l k))) rfl (by kernel_rfl) (fun β ρ w' hM' => B w' (hM.later hM'.below)) ?_
  conv=>arg 5;whnf
  refine wp_br (fun h2 => ?_) (fun h2 => ?_)
  ·(conv => arg 5; whnf)
   refine wp_must ⟨by omega, by omega⟩ ?_
   conv=>arg 5;whnf
   refine wp_end ⟨k + 1, hlt, (by rw [hst, if_pos h2]; exact ⟨by repeat' first | exact trivial | refine ⟨.inl rfl, ?_⟩ | refine ⟨.inr rfl, ?_⟩, ⟨by repeat' first | exact trivial | refine ⟨.inl rfl, ?_⟩ | refine ⟨.inr rfl, ?_⟩, by repeat' first | exact trivial | refine ⟨.inl rfl, ?_⟩ | refine ⟨.inr rfl, ?_⟩, fun _ h => h⟩, rfl⟩), by show n - (k + 1) < n - k; omega⟩
  ·(conv => arg 5; whnf)
   refine wp_must ⟨by omega, by omega⟩ ?_
   conv=>arg 5;whnf
   refine wp_end ⟨k + 1, hlt, (by rw [hst, if_neg (by rw [h2]; simp)]; exact ⟨by repeat' first | exact trivial | refine ⟨.inl rfl, ?_⟩ | refine ⟨.inr rfl, ?_⟩, ⟨by repeat' first | exact trivial | refine ⟨.inl rfl, ?_⟩ | refine ⟨.inr rfl, ?_⟩, by repeat' first | exact trivial | refine ⟨.inl rfl, ?_⟩ | refine ⟨.inr rfl, ?_⟩, fun _ h => h⟩, rfl⟩), by show n - (k + 1) < n - k; omega⟩
 ·have hkn : k = n := by simp at h1; omega
  subst hkn
  conv=>arg 5;whnf
  exact wp_back fun β ρ w' hM' => ⟨by (have e : decide ((k : Int) > 0) = decide (0 < k) := by simp); show Ending.returned (.tuple #[.int .i64 (worstTo l k : Nat), .bool (decide ((k : Int) > 0))]) = _; rw [e], hM'.below⟩
end Go.Proofs.YtofpmnkkimgkfaaGreatDoor.heap
namespace Go.Proofs.YtofpmnkkimgkfaaGreatDoor.heap
open Go.RowKit Sx txn queue
end Go.Proofs.YtofpmnkkimgkfaaGreatDoor.heap
namespace Go.Proofs.YtofpmnkkimgkfaaGreatDoor.heap
open Go.RowKit Sx txn queue
end Go.Proofs.YtofpmnkkimgkfaaGreatDoor.heap
namespace Go.Proofs.YtofpmnkkimgkfaaGreatDoor.heap
open Go.RowKit Sx txn queue
end Go.Proofs.YtofpmnkkimgkfaaGreatDoor.heap
namespace Go.Proofs.YtofpmnkkimgkfaaGreatDoor.heap
open Go.RowKit Sx txn queue
section
variable {P : Program} {W : World} {G : Option Nat} {Q : Ending → World → Prop} {ds : List Deferred}
end
theorem own_row {w : World} {base : Nat} {e : TypeId} {size : Nat} {v : Value} {n : Nat} {xs : List Value} (h : w.ownsRow base e size v n xs) : ∃ a c, v = .slice a n c ∧ Sl a n c ∧ (∀ ad, a = some ad → base ≤ ad.block) ∧ At w (pt a n) xs := by
 obtain ⟨hl, ⟨rfl, rfl⟩ | ⟨g, cap, cur, rfl, hb, hg, hn, hc, hsz, hx⟩⟩ := h
 ·exact ⟨none, 0, rfl, ⟨Nat.le_refl _, Nat.zero_le _, fun _ => ⟨rfl, rfl⟩⟩, fun ad h => (by cases h), fun g hg => (by cases hg)⟩
 ·refine ⟨_, cap, rfl, ⟨hn, hc, fun h => (by cases h)⟩, fun ad h => (by cases h; exact hb), ?_⟩
  by_cases h0 : n = 0
  ·rw [show pt _ n = none from if_pos h0]
   intro g hg
   cases hg
  ·rw [show pt _ n = _ from if_neg h0]
   intro g' hg'
   cases hg'
   refine ⟨_, hg, fun ad had => ?_⟩
   cases had
   refine ⟨rfl, cur, e, _, rfl, fun j u hu => ?_⟩
   have hj : j < n * size := by
    have := (List.getElem?_eq_some_iff.1 hu).1
    omega
   rw [← hx, List.getElem?_take, if_pos hj, Array.getElem?_toList] at hu
   simpa using hu
end Go.Proofs.YtofpmnkkimgkfaaGreatDoor.heap
namespace Go.Proofs.YtofpmnkkimgkfaaGreatDoor.heap
open Go.RowKit Sx txn queue
section
variable {P : Program} {W : World} {G : Option Nat} {Q : Ending → World → Prop} {ds : List Deferred}
end
end Go.Proofs.YtofpmnkkimgkfaaGreatDoor.heap
namespace Go.Proofs.YtofpmnkkimgkfaaGreatDoor.heap
open Go.RowKit Sx txn queue
section
variable {P : Program} {W : World} {G : Option Nat} {Q : Ending → World → Prop} {ds : List Deferred}
theorem meet1F {f : FuncId} {args : List Sx.T} {l : List Value} {m : M} {k : Value → List Fact → Tree} {n : Nat} {v : Option Addr → Nat → Value} {xs : List Value} (hv : valsOf args = some l) (hc : callable P f = true)
  (hC : ∀ β ρ w, Mem W G m β ρ w → Calls P f (List.toArray l) w fun e w' => ∃ i : One, Sl i.1 n i.2 ∧ Gives w w' e (v i.1 i.2) [rowF (pt i.1 n) xs]) (h : ∀ a c, Sl a n c → (∀ g, (rowF (pt a n) xs).g = some g → W.heap.size ≤ g) → (k (v a c) [rowF (pt a n) xs]).wpD P W G Q ds) : (Tree.call f args m k).wpD P W G Q ds :=
 meetR (ι := One) (ok := fun i => Sl i.1 n i.2 ∧ ∀ g, (rowF (pt i.1 n) xs).g = some g → W.heap.size ≤ g) (v := fun i => v i.1 i.2) (fs := fun i => [rowF (pt i.1 n) xs]) hc (fun β ρ w vs hm hr => by
  rw [valsOf_spec _ _ _ hv hr]
  refine (hC β ρ w hm).mono fun e w' ⟨i, hi, hg⟩ => ⟨i, ⟨hi, fun g hgg => Nat.le_trans hm.grown.size (hg.2.2 _ List.mem_cons_self g hgg).1⟩, hg⟩) (fun i hi => h i.1 i.2 hi.1 hi.2)
end
section
variable {P : Program} {W : World} {G : Option Nat} {Q : Ending → World → Prop} {ds : List Deferred}
end
end Go.Proofs.YtofpmnkkimgkfaaGreatDoor.heap
namespace Go.Proofs.YtofpmnkkimgkfaaGreatDoor.heap
open Go.RowKit Sx txn queue
end Go.Proofs.YtofpmnkkimgkfaaGreatDoor.heap
namespace Go.Proofs.YtofpmnkkimgkfaaGreatDoor.heap
open Go.RowKit Sx txn queue
abbrev B (x y : Tx) : Prop := betterV x y = true
end Go.Proofs.YtofpmnkkimgkfaaGreatDoor.heap
