/- Layer 6 (heap): what a row is asked, by contract. -/
import Derived.Test.YtofpmnkkimgkfaaDoorKSxx
import Derived.Test.YtofpmnkkimgkfaaDoorKOrd
import Derived.Test.YtofpmnkkimgkfaaDoorKQueueS
import Derived.Test.YtofpmnkkimgkfaaDoorKMeet2
set_option linter.all false
set_option maxHeartbeats 4000000
set_option maxRecDepth 100000
namespace Go.Proofs.YtofpmnkkimgkfaaDoor.heap
open Go.RowKit Sx txn queue
def nx (l : List Tx) (i : Nat) : Tx := l.getD i tx0
end Go.Proofs.YtofpmnkkimgkfaaDoor.heap
namespace Go.Proofs.YtofpmnkkimgkfaaDoor.heap
open Go.RowKit Sx txn queue
end Go.Proofs.YtofpmnkkimgkfaaDoor.heap
namespace Go.Proofs.YtofpmnkkimgkfaaDoor.heap
open Go.RowKit Sx txn queue
end Go.Proofs.YtofpmnkkimgkfaaDoor.heap
namespace Go.Proofs.YtofpmnkkimgkfaaDoor.heap
open Go.RowKit Sx txn queue
end Go.Proofs.YtofpmnkkimgkfaaDoor.heap
namespace Go.Proofs.YtofpmnkkimgkfaaDoor.heap
open Go.RowKit Sx txn queue
def worstTo (l : List Tx) : Nat → Nat
 | 0 => 0
 | k + 1 => if betterV (nx l (worstTo l k)) (nx l k) = true then k else worstTo l k
end Go.Proofs.YtofpmnkkimgkfaaDoor.heap
namespace Go.Proofs.YtofpmnkkimgkfaaDoor.heap
open Go.RowKit Sx txn queue
end Go.Proofs.YtofpmnkkimgkfaaDoor.heap
namespace Go.Proofs.YtofpmnkkimgkfaaDoor.heap
open Go.RowKit Sx txn queue
end Go.Proofs.YtofpmnkkimgkfaaDoor.heap
namespace Go.Proofs.YtofpmnkkimgkfaaDoor.heap
open Go.RowKit Sx txn queue
end Go.Proofs.YtofpmnkkimgkfaaDoor.heap
namespace Go.Proofs.YtofpmnkkimgkfaaDoor.heap
open Go.RowKit Sx txn queue
section
variable {P : Program} {W : World} {G : Option Nat} {Q : Ending → World → Prop} {ds : List Deferred}
end
theorem own_row {w : World} {base : Nat} {e : TypeId} {size : Nat} {v : Value} {n : Nat} {xs : List Value} (h : w.ownsRow base e size v n xs) : ∃ a c, v = .slice a n c ∧ Sl a n c ∧ (∀ ad, a = some ad → base ≤ ad.block) ∧ At w (pt a n) xs := by
 obtain ⟨hl, ⟨rfl, rfl⟩ | ⟨g, cap, cur, rfl, hb, hg, hn, hc, hsz, hx⟩⟩ := h
 ·exact ⟨none, 0, rfl, ⟨Nat.le_refl _, Nat.zero_le _, fun _ => ⟨rfl, rfl⟩⟩, fun ad h => (by cases h), fun g hg => (by cases hg)⟩
 ·refine ⟨_, cap, rfl, ⟨hn, hc, fun h => (by cases h)⟩, fun ad h => (by cases h; exact hb), ?_⟩
  by_cases h0 : n = 0
  ·rw [show pt _ n = none from if_pos h0]
   intro g hg
   cases hg
  ·rw [show pt _ n = _ from if_neg h0]
   intro g' hg'
   cases hg'
   refine ⟨_, hg, fun ad had => ?_⟩
   cases had
   refine ⟨rfl, cur, e, _, rfl, fun j u hu => ?_⟩
   have hj : j < n * size := by
    have := (List.getElem?_eq_some_iff.1 hu).1
    omega
   rw [← hx, List.getElem?_take, if_pos hj, Array.getElem?_toList] at hu
   simpa using hu
end Go.Proofs.YtofpmnkkimgkfaaDoor.heap
namespace Go.Proofs.YtofpmnkkimgkfaaDoor.heap
open Go.RowKit Sx txn queue
section
variable {P : Program} {W : World} {G : Option Nat} {Q : Ending → World → Prop} {ds : List Deferred}
end
end Go.Proofs.YtofpmnkkimgkfaaDoor.heap
namespace Go.Proofs.YtofpmnkkimgkfaaDoor.heap
open Go.RowKit Sx txn queue
section
variable {P : Program} {W : World} {G : Option Nat} {Q : Ending → World → Prop} {ds : List Deferred}
theorem meet1F {f : FuncId} {args : List Sx.T} {l : List Value} {m : M} {k : Value → List Fact → Tree} {n : Nat} {v : Option Addr → Nat → Value} {xs : List Value} (hv : valsOf args = some l) (hc : callable P f = true)
  (hC : ∀ β ρ w, Mem W G m β ρ w → Calls P f (List.toArray l) w fun e w' => ∃ i : One, Sl i.1 n i.2 ∧ Gives w w' e (v i.1 i.2) [rowF (pt i.1 n) xs]) (h : ∀ a c, Sl a n c → (∀ g, (rowF (pt a n) xs).g = some g → W.heap.size ≤ g) → (k (v a c) [rowF (pt a n) xs]).wpD P W G Q ds) : (Tree.call f args m k).wpD P W G Q ds :=
 meetR (ι := One) (ok := fun i => Sl i.1 n i.2 ∧ ∀ g, (rowF (pt i.1 n) xs).g = some g → W.heap.size ≤ g) (v := fun i => v i.1 i.2) (fs := fun i => [rowF (pt i.1 n) xs]) hc (fun β ρ w vs hm hr => by
  rw [valsOf_spec _ _ _ hv hr]
  refine (hC β ρ w hm).mono fun e w' ⟨i, hi, hg⟩ => ⟨i, ⟨hi, fun g hgg => Nat.le_trans hm.grown.size (hg.2.2 _ List.mem_cons_self g hgg).1⟩, hg⟩) (fun i hi => h i.1 i.2 hi.1 hi.2)
end
section
variable {P : Program} {W : World} {G : Option Nat} {Q : Ending → World → Prop} {ds : List Deferred}
end
end Go.Proofs.YtofpmnkkimgkfaaDoor.heap
namespace Go.Proofs.YtofpmnkkimgkfaaDoor.heap
open Go.RowKit Sx txn queue
end Go.Proofs.YtofpmnkkimgkfaaDoor.heap
namespace Go.Proofs.YtofpmnkkimgkfaaDoor.heap
open Go.RowKit Sx txn queue
end Go.Proofs.YtofpmnkkimgkfaaDoor.heap
