/- Layer 12 (greedy), by contract: the line of an account. -/
import Derived.Test.YtofpmnkkimgkfaaDoorKQueueS
import Derived.Test.YtofpmnkkimgkfaaDoorKOrd
import Derived.Test.YtofpmnkkimgkfaaDoorKSxM
import Derived.Test.YtofpmnkkimgkfaaDoorKSxx
import Derived.Test.YtofpmnkkimgkfaaDoorKSxB
import Derived.Test.YtofpmnkkimgkfaaDoorKSxC
import Derived.Test.YtofpmnkkimgkfaaDoorKQueueT
import Derived.Test.YtofpmnkkimgkfaaDoorKQueueOpen
set_option linter.all false
set_option maxHeartbeats 4000000
set_option maxRecDepth 100000
namespace Go.Proofs.YtofpmnkkimgkfaaDoor.greedy
open Go.RowKit Sx txn queue
section
variable {P : Program} {W : World} {G : Option Nat} {Q : Ending → World → Prop} {ds : List Deferred}
theorem meet1F {f : FuncId} {args : List Sx.T} {l : List Value} {m : M} {k : Value → List Fact → Tree} {n : Nat} {v : Option Addr → Nat → Value} {xs : List Value} (hv : valsOf args = some l) (hc : callable P f = true)
  (hC : ∀ β ρ w, Mem W G m β ρ w → Calls P f (List.toArray l) w fun e w' => ∃ i : One, Sl i.1 n i.2 ∧ Gives w w' e (v i.1 i.2) [rowF (pt i.1 n) xs]) (h : ∀ a c, Sl a n c → (∀ g, (rowF (pt a n) xs).g = some g → W.heap.size ≤ g) → (k (v a c) [rowF (pt a n) xs]).wpD P W G Q ds) : (Tree.call f args m k).wpD P W G Q ds :=
 meetR (ι := One) (ok := fun i => Sl i.1 n i.2 ∧ ∀ g, (rowF (pt i.1 n) xs).g = some g → W.heap.size ≤ g) (v := fun i => v i.1 i.2) (fs := fun i => [rowF (pt i.1 n) xs]) hc (fun β ρ w vs hm hr => by
  rw [valsOf_spec _ _ _ hv hr]
  refine (hC β ρ w hm).mono fun e w' ⟨i, hi, hg⟩ => ⟨i, ⟨hi, fun g hgg => Nat.le_trans hm.grown.size (hg.2.2 _ List.mem_cons_self g hgg).1⟩, hg⟩) (fun i hi => h i.1 i.2 hi.1 hi.2)
end
def bad (x : Tx) : Bool := !x.ok
def lineR (r : List Tx) : List Tx := if idx bad r 0 < 0 then r else r.take (idx bad r 0).toNat
def lineV (b : Int) (l : List Tx) : List Tx := lineR (readyV b l)
end Go.Proofs.YtofpmnkkimgkfaaDoor.greedy
namespace Go.Proofs.YtofpmnkkimgkfaaDoor.greedy
open Go.RowKit Sx txn queue
structure Ln where
 s : Int
 a : Option Addr
 n : Nat
 c : Nat
 l : List Tx
def Ln.cs (x : Ln) : List Value := [.int .i64 x.s, .slice x.a x.n x.c]
def Ln.val (x : Ln) : Value := .agg x.cs.toArray
section
variable {W : World} {G : Option Nat} {Q : Ending → World → Prop} {ds : List Deferred}
end
end Go.Proofs.YtofpmnkkimgkfaaDoor.greedy
namespace Go.Proofs.YtofpmnkkimgkfaaDoor.greedy
open Go.RowKit Sx txn queue
end Go.Proofs.YtofpmnkkimgkfaaDoor.greedy
namespace Go.Proofs.YtofpmnkkimgkfaaDoor.greedy
open Go.RowKit Sx txn queue
def tz : Tx := ⟨0, 0, 0, 0, 0, ByteArray.empty⟩
def nx (l : List Tx) (i : Nat) : Tx := l.getD i tz
def Ln.fit (x : Ln) : Prop := Sl x.a x.n x.c ∧ x.n = x.l.length ∧ ∀ t ∈ x.l, t.d.size ≤ maxLen
def placed (m : List (Int × Value)) (L : List Ln) : Prop := ∀ x ∈ L, ∀ v, lkM m x.s = some v → ∃ p : Nat, v = .int .i64 p ∧ p < x.n
end Go.Proofs.YtofpmnkkimgkfaaDoor.greedy
namespace Go.Proofs.YtofpmnkkimgkfaaDoor.greedy
open Go.RowKit Sx txn queue
theorem own_row {w : World} {base : Nat} {e : TypeId} {size : Nat} {v : Value} {n : Nat} {xs : List Value} (h : w.ownsRow base e size v n xs) : ∃ a c, v = .slice a n c ∧ Sl a n c ∧ (∀ ad, a = some ad → base ≤ ad.block) ∧ At w (pt a n) xs := by
 obtain ⟨hl, ⟨rfl, rfl⟩ | ⟨g, cap, cur, rfl, hb, hg, hn, hc, hsz, hx⟩⟩ := h
 ·exact ⟨none, 0, rfl, ⟨Nat.le_refl _, Nat.zero_le _, fun _ => ⟨rfl, rfl⟩⟩, fun ad h => (by cases h), fun g hg => (by cases hg)⟩
 ·refine ⟨_, cap, rfl, ⟨hn, hc, fun h => (by cases h)⟩, fun ad h => (by cases h; exact hb), ?_⟩
  by_cases h0 : n = 0
  ·rw [show pt _ n = none from if_pos h0]
   intro g hg
   cases hg
  ·rw [show pt _ n = _ from if_neg h0]
   intro g' hg'
   cases hg'
   refine ⟨_, hg, fun ad had => ?_⟩
   cases had
   refine ⟨rfl, cur, e, _, rfl, fun j u hu => ?_⟩
   have hj : j < n * size := by
    have := (List.getElem?_eq_some_iff.1 hu).1
    omega
   rw [← hx, List.getElem?_take, if_pos hj, Array.getElem?_toList] at hu
   simpa using hu
structure Ac where
 s : Int
 b : Int
 a : Option Addr
 n : Nat
 c : Nat
 l : List Tx
def Ac.cs (x : Ac) : List Value := [.int .i64 x.s, .int .i64 x.b, .slice x.a x.n x.c]
def cellsA (L : List Ac) : List Value := L.flatMap Ac.cs
def acF (x : Ac) : Fact := rowF (pt x.a x.n) (cellsL x.l)
def Ac.fit (x : Ac) : Prop := Sl x.a x.n x.c ∧ x.n = x.l.length ∧ x.l.length ≤ 1000000 ∧ ∀ t ∈ x.l, t.d.size ≤ maxLen
def acsF (a : Option Addr) (n : Nat) (L : List Ac) : List Fact := rowF (pt a n) (cellsA L) :: L.map acF
def frS (L : List Ac) (y : Ac) : List Ac := if L.any (fun x => x.s == y.s) then L else L ++ [y]
def firstsV (L : List Ac) : List Ac := L.foldl frS []
section
variable {P : Program} {W : World} {G : Option Nat} {Q : Ending → World → Prop} {ds : List Deferred}
end
end Go.Proofs.YtofpmnkkimgkfaaDoor.greedy
namespace Go.Proofs.YtofpmnkkimgkfaaDoor.greedy
open Go.RowKit Sx txn queue
def bsS (q : Option (Nat × Tx)) (i : Nat) (r : List Tx) : Option (Nat × Tx) := match r with
 | [] => q
 | t :: _ => match q with
  | none => some (i, t)
  | some u => if betterV t u.2 then some (i, t) else some u
def bestI (left : List (List Tx)) (n : Nat) : Option (Nat × Tx) := (List.range n).foldl (fun q i => bsS q i (left.getD i [])) none
def sizeL (left : List (List Tx)) : Nat := (left.map List.length).sum
def tplN : Nat → List (List Tx) → Int → List Tx
 | 0, _, _ => []
 | f + 1, left, gas => match bestI left left.length with
  | none => []
  | some q => if gas < q.2.g then tplN f (left.set q.1 []) gas else q.2 :: tplN f (left.set q.1 (left.getD q.1 []).tail) (gas - q.2.g)
def tplV (left : List (List Tx)) (gas : Int) : List Tx := tplN (sizeL left) left gas
theorem idx_none (p : Tx → Bool) : ∀ (l : List Tx) (k : Nat), idx p l k < 0 → ∀ t ∈ l, p t = false
 | [], k, h, t, ht => by simp at ht
 | x :: l, k, h, t, ht => by
  unfold idx at h
  split at h
  ·omega
  ·rename_i hx
   rcases List.mem_cons.1 ht with rfl | ht
   ·simpa using hx
   ·exact idx_none p l (k + 1) h t ht
def templateV (L : List Ac) (gas : Int) : List Tx := tplV ((firstsV L).map fun x => lineV x.b x.l) gas
end Go.Proofs.YtofpmnkkimgkfaaDoor.greedy
namespace Go.Proofs.YtofpmnkkimgkfaaDoor.greedy
open Go.RowKit Sx txn queue
section
variable {W : World} {G : Option Nat} {Q : Ending → World → Prop} {ds : List Deferred}
end
end Go.Proofs.YtofpmnkkimgkfaaDoor.greedy
namespace Go.Proofs.YtofpmnkkimgkfaaDoor.greedy
open Go.RowKit Sx txn queue
section
variable {W : World} {G : Option Nat} {Q : Ending → World → Prop} {ds : List Deferred}
end
end Go.Proofs.YtofpmnkkimgkfaaDoor.greedy
namespace Go.Proofs.YtofpmnkkimgkfaaDoor.greedy
open Go.RowKit Sx txn queue
end Go.Proofs.YtofpmnkkimgkfaaDoor.greedy
namespace Go.Proofs.YtofpmnkkimgkfaaDoor.greedy
open Go.RowKit Sx txn queue
section
variable {W : World} {G : Option Nat} {Q : Ending → World → Prop} {ds : List Deferred}
end
end Go.Proofs.YtofpmnkkimgkfaaDoor.greedy
namespace Go.Proofs.YtofpmnkkimgkfaaDoor.greedy
open Go.RowKit Sx txn queue
section
variable {W : World} {G : Option Nat} {Q : Ending → World → Prop} {ds : List Deferred}
end
def bz (q : Option (Nat × Tx)) : Int := match q with | some q => q.1 | none => -1
end Go.Proofs.YtofpmnkkimgkfaaDoor.greedy
namespace Go.Proofs.YtofpmnkkimgkfaaDoor.greedy
open Go.RowKit Sx txn queue
theorem slice_from (a : Option Addr) (n c j : Nat) (w : World) (h : j ≤ n) (hc : n ≤ c) : (do pure (Next.value (← Instr.sliceAt 24 (.slice a n c) (some (.int .i64 j)) none none)) : Sem Next).run Tryd.prog w = .ok (.value (.slice (if c = j then a else a.map fun x => x.add (j * 6)) (n - j) (c - j))) w := by
 have h2 : (j : Int) ≤ n := by omega
 have h3 : (n : Int) ≤ c := by omega
 by_cases h4 : c = j
 ·have h5 : (c : Int) = j := by omega
  simp [Instr.sliceAt, Instr.slice, run_underlying Tryd.underlying24, Sem.run_bind, go_sem, h2, h3, h4, h5]
 ·simp [Instr.sliceAt, Instr.slice, run_underlying Tryd.underlying24, Sem.run_bind, go_sem, h2, h3, h4]
theorem cellsL_drops (l : List Tx) (j : Nat) : cellsL (l.drop j) = (cellsL l).drop (j * 6) := by
 induction l generalizing j with
 | nil => simp [cellsL]
 | cons x l ih =>
  cases j with
  | zero => simp [cellsL]
  | succ j =>
   have := ih j
   simp only [cellsL] at this
   simp only [cellsL, List.drop_succ_cons, List.flatMap_cons]
   rw [this, show (j + 1) * 6 = (cellsX x).length + j * 6 from by simp [cellsX]; omega, List.drop_length_add_append]
theorem at_end {w : World} {a : Option Addr} {n c : Nat} {l : List Tx} (h : At w (pt a n) (cellsL l)) (j : Nat) (hj : j ≤ n) (hc : n ≤ c) : At w (pt (if c = j then a else a.map fun x => x.add (j * 6)) (n - j)) (cellsL (l.drop j)) := by
 by_cases h0 : n - j = 0
 ·rw [show pt _ (n - j) = none from if_pos h0]
  intro g hg
  cases hg
 ·rw [show pt a n = a from if_neg (by omega)] at h
  rw [show pt _ (n - j) = _ from if_neg h0, if_neg (by omega), cellsL_drops]
  exact at_drop h _
section
variable {P : Program} {W : World} {G : Option Nat} {Q : Ending → World → Prop} {ds : List Deferred}
end
section
variable {W : World} {G : Option Nat} {Q : Ending → World → Prop} {ds : List Deferred}
end
end Go.Proofs.YtofpmnkkimgkfaaDoor.greedy
namespace Go.Proofs.YtofpmnkkimgkfaaDoor.greedy
open Go.RowKit Sx txn queue
def sameT (a b : Tx) : Bool := decide (a.s = b.s) && decide (a.n = b.n) && decide (a.t = b.t) && decide (a.c = b.c) && decide (a.g = b.g) && decide (a.d.toList = b.d.toList)
theorem sameT_iff (a b : Tx) : sameT a b = true ↔ a = b := by
 unfold sameT
 simp only [Bool.and_eq_true, decide_eq_true_eq]
 constructor
 ·rintro ⟨⟨⟨⟨⟨h1, h2⟩, h3⟩, h4⟩, h5⟩, h6⟩
  obtain ⟨s, n, t, c, g, d⟩ := a
  obtain ⟨s', n', t', c', g', d'⟩ := b
  have : d = d' := ByteArray.ext (Array.toList_inj.1 (by rw [← ByteArray.toList_eq, ← ByteArray.toList_eq]; exact h6))
  simp_all
 ·rintro rfl
  simp
theorem eq_any (x y : Operand) (a b : Tx) (w : World) : (do eqGuard .eql 34 x y a.val b.val; pure (Next.value (← binOp .eql 34 a.val b.val)) : Sem Next).run Tryd.prog w = .ok (.value (.bool (sameT a b))) w := by
 obtain ⟨s, n, t, c, g, d⟩ := a
 obtain ⟨s', n', t', c', g', d'⟩ := b
 unfold sameT
 simp [Tx.val, eqGuard, go_sem]
 by_cases h1 : s = s' <;> by_cases h2 : n = n' <;> by_cases h3 : t = t' <;> by_cases h4 : c = c' <;> by_cases h5 : g = g' <;> by_cases h6 : d.toList = d'.toList <;> simp [h1, h2, h3, h4, h5, h6]
section
variable {W : World} {G : Option Nat} {Q : Ending → World → Prop} {ds : List Deferred}
end
end Go.Proofs.YtofpmnkkimgkfaaDoor.greedy
namespace Go.Proofs.YtofpmnkkimgkfaaDoor.greedy
open Go.RowKit Sx txn queue
end Go.Proofs.YtofpmnkkimgkfaaDoor.greedy
namespace Go.Proofs.YtofpmnkkimgkfaaDoor.greedy
open Go.RowKit Go.ChangeShapes Go.WideShapes Sx txn queue
section
variable {H : Type} {enc : TypeId × Value → H} {W : World} {r : Reach} {b0 base : Nat} {spare : Nat → Bool} {held : Bool} {v : Value} {d : DataW H} {p : List MemPlace}
end
end Go.Proofs.YtofpmnkkimgkfaaDoor.greedy
namespace Go.Proofs.YtofpmnkkimgkfaaDoor.greedy
open Go.RowKit Sx txn queue
def T (s n t g : Int) : Tx := ⟨s, n, t, 1000, g, ByteArray.empty⟩
theorem eq_same' (x y : Operand) (t : Tx) (w : World) : (do eqGuard .eql 34 x y t.val t.val; pure (Next.value (← binOp .eql 34 t.val t.val)) : Sem Next).run Tryd.prog w = .ok (.value (.bool true)) w := by
 have := eq_any x y t t w
 rw [show sameT t t = true from (sameT_iff t t).2 rfl] at this
 exact this
def LC (a1 : Option Addr) (c1 : Nat) (a2 : Option Addr) (c2 : Nat) (a3 : Option Addr) (c3 : Nat) : List Ac := [⟨1, 0, a1, 3, c1, [T 1 0 5 10, T 1 1 9 5, T 1 3 99 1]⟩, ⟨2, 0, a2, 1, c2, [T 2 0 7 6]⟩, ⟨3, 1, a3, 1, c3, [T 3 2 50 1]⟩]
end Go.Proofs.YtofpmnkkimgkfaaDoor.greedy
namespace Go.Proofs.YtofpmnkkimgkfaaDoor.greedy
open Go.RowKit Sx txn queue
end Go.Proofs.YtofpmnkkimgkfaaDoor.greedy
