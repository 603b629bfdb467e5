/- Layer 11 (shard): lists in the order of a key. -/
import Derived.WalkKit
import Derived.Test.YtofpmnkkimgkfaaDoorKGreedyAll
import Derived.Test.YtofpmnkkimgkfaaDoorKShEnv
import Derived.Test.YtofpmnkkimgkfaaDoorKTxnId
import Derived.Test.YtofpmnkkimgkfaaDoorKHeapAll
import Derived.Test.YtofpmnkkimgkfaaDoorKSxM
import Derived.Test.YtofpmnkkimgkfaaDoorKFnvT
import Derived.Lib.Hide
import Derived.Test.YtofpmnkkimgkfaaDoorKQueueOpen
set_option linter.all false
set_option maxHeartbeats 4000000
set_option maxRecDepth 100000
namespace Go.Proofs.YtofpmnkkimgkfaaDoor.shard
section
variable {α β : Type}
def ins (f : α → Int) (x : α) : List α → List α
 | [] => [x]
 | y :: l => if f x < f y then x :: y :: l else y :: ins f x l
def ofK (f : α → Int) (k : Int) (l : List α) : List α := l.filter (fun x => f x == k)
end
end Go.Proofs.YtofpmnkkimgkfaaDoor.shard
namespace Go.Proofs.YtofpmnkkimgkfaaDoor.shard
open Go.RowKit Sx txn queue greedy
section
variable {E : Sx.Env} {P : Program} {W : World} {G : Option Nat} {Q : Ending → World → Prop} {ds : List Deferred}
theorem readG (hE : E.Ok P) {ty : TypeId} {ad : Option Addr} {xs vs : List Value} {k sz n : Nat} {m : M} {K : Value → Tree} {a : Addr} (hty : lk E.agg ty = some (some sz)) (hl : vs.length = sz) (hm : rowF (pt ad n) xs ∈ m.facts) (hk : k < n) (ha : ad.isSome = true)
  (hx : ∀ (j : Nat) (u : Value), vs[j]? = some u → xs[k * sz + j]? = some u) (haddr : a = (ad.getD ⟨0, 0, none⟩).add (k * sz)) (h : (K (.agg vs.toArray)).wpD P W G Q ds) : (Tree.load ty a m K).wpD P W G Q ds := by
 rw [pt_pos hk] at hm
 refine ⟨.agg vs.toArray, fun β ρ w hM => ?_, h⟩
 cases ad with
 | none => cases ha
 | some ad =>
  have := hE.aggN ty sz hty a w vs hl (fun j u hu => by
   have hc := (hM.at_ hm).cell (hx j u hu)
   rw [haddr]
   simp only [Option.getD_some]
   obtain ⟨b, o, sp⟩ := ad
   unfold Addr.add at hc ⊢
   by_cases h1 : k * sz = 0 <;> by_cases h2 : j = 0 <;> simp_all [Nat.add_assoc])
  rw [this]
end
def emptyV (b : Int) (n : Nat) : Bool := decide (b ≤ 0) && decide (n = 0)
end Go.Proofs.YtofpmnkkimgkfaaDoor.shard
namespace Go.Proofs.YtofpmnkkimgkfaaDoor.shard
open Go.RowKit Sx txn queue greedy
end Go.Proofs.YtofpmnkkimgkfaaDoor.shard
namespace Go.Proofs.YtofpmnkkimgkfaaDoor.shard
open Go.RowKit Sx txn queue greedy
def lastL (l : List Tx) : List Tx := l.drop (l.length - 1)
def lastsP (P : List (List Tx)) : List Tx := P.flatMap lastL
def lastsV (L : List Ac) : List Tx := lastsP (L.map (·.l))
def worstV (L : List Ac) : Tx × Bool := if 0 < (lastsV L).length then (nx (lastsV L) (heap.worstTo (lastsV L) (lastsV L).length), true) else (tz, false)
end Go.Proofs.YtofpmnkkimgkfaaDoor.shard
namespace Go.Proofs.YtofpmnkkimgkfaaDoor.shard
open Go.RowKit Sx txn queue greedy
theorem at_any {w : World} {a : Option Addr} {xs : List Value} (n : Nat) (h : At w a xs) : At w (pt a n) xs := by
 unfold Sx.pt
 split
 ·exact fun g hg => by cases hg
 ·exact h
abbrev PA := Int × Int × List Tx
def acP (x : Ac) : PA := (x.s, x.b, x.l)
def setS (a : PA) (st : List PA × List PA) (x : PA) : List PA × List PA := if x.1 = a.1 then st else if st.2 ≠ [] ∨ a.1 < x.1 then (st.1, st.2 ++ [x]) else (st.1 ++ [x], st.2)
def setF (L : List PA) (a : PA) : List PA × List PA := L.foldl (setS a) ([], [])
def setP (L : List PA) (a : PA) : List PA := (setF L a).1 ++ (if emptyV a.2.1 a.2.2.length then [] else [a]) ++ (setF L a).2
end Go.Proofs.YtofpmnkkimgkfaaDoor.shard
namespace Go.Proofs.YtofpmnkkimgkfaaDoor.shard
open Go.RowKit Sx txn queue greedy
end Go.Proofs.YtofpmnkkimgkfaaDoor.shard
namespace Go.Proofs.YtofpmnkkimgkfaaDoor.shard
open Go.RowKit Sx txn queue greedy
section
variable {P : Program} {W : World} {G : Option Nat} {Q : Ending → World → Prop} {ds : List Deferred}
end
end Go.Proofs.YtofpmnkkimgkfaaDoor.shard
namespace Go.Proofs.YtofpmnkkimgkfaaDoor.shard
open Go.RowKit Sx txn queue greedy
def getP (P : List PA) (s : Int) : PA := match ofK (fun x : PA => x.1) s P with | [] => (s, 0, []) | x :: _ => x
section
variable {W : World} {G : Option Nat} {Q : Ending → World → Prop} {ds : List Deferred}
end
section
variable {P : Program} {W : World} {Q : Ending → World → Prop} {ds : List Deferred}
end
end Go.Proofs.YtofpmnkkimgkfaaDoor.shard
namespace Go.Proofs.YtofpmnkkimgkfaaDoor.shard
open Go.RowKit Go.Maps Go.WideElems Sx txn queue greedy
end Go.Proofs.YtofpmnkkimgkfaaDoor.shard
namespace Go.Proofs.YtofpmnkkimgkfaaDoor.shard
open Go.RowKit Sx txn queue greedy
end Go.Proofs.YtofpmnkkimgkfaaDoor.shard
namespace Go.Proofs.YtofpmnkkimgkfaaDoor.shard
open Go.RowKit Sx txn queue greedy
section
variable {W : World} {G : Option Nat} {Q : Ending → World → Prop} {ds : List Deferred}
theorem readF {ty : TypeId} {ad : Option Addr} {xs : List Value} {k sz f n : Nat} {m : M} {K : Value → Tree} {a : Addr} (v : Value) (hty : lk env.agg ty = some none) (hm : rowF (pt ad n) xs ∈ m.facts) (hk : k < n) (ha : ad.isSome = true) (hv : xs[k * sz + f]? = some v)
  (haddr : a = ((ad.getD ⟨0, 0, none⟩).add (k * sz)).add f) (h : (K v).wpD Tryd.prog W G Q ds) : (Tree.load ty a m K).wpD Tryd.prog W G Q ds := by
 rw [pt_pos hk] at hm
 refine ⟨v, fun β ρ w hM => ?_, h⟩
 cases ad with
 | none => cases ha
 | some ad =>
  have hc := (hM.at_ hm).cell hv
  have e : a = ad.add (k * sz + f) := by
   rw [haddr]
   simp only [Option.getD_some]
   obtain ⟨b, o, sp⟩ := ad
   unfold Addr.add
   by_cases h1 : k * sz = 0 <;> by_cases h2 : f = 0 <;> simp [h1, h2, Nat.add_assoc]
  rw [env_ok.agg1 ty hty]
  rw [e]
  simp [load, Sem.run, hc]
end
end Go.Proofs.YtofpmnkkimgkfaaDoor.shard
namespace Go.Proofs.YtofpmnkkimgkfaaDoor.shard
open Go.RowKit Sx txn queue greedy
end Go.Proofs.YtofpmnkkimgkfaaDoor.shard
namespace Go.Proofs.YtofpmnkkimgkfaaDoor.fnv
open Go.RowKit
def shardV (s n : Int) : Int := if 0 ≤ s ∧ s ≤ 255 ∧ 1 ≤ n ∧ n ≤ 8 then hof [UInt8.ofNat s.toNat] % n else -1
end Go.Proofs.YtofpmnkkimgkfaaDoor.fnv
namespace Go.Proofs.YtofpmnkkimgkfaaDoor.shard
open Go.RowKit Sx txn queue greedy
def okI (P : List PA) (k sh per : Int) (i : Nat) : Bool :=
 match P[i]? with
 | none => true
 | some x => (match i with | 0 => true | j + 1 => match P[j]? with | some y => decide (y.1 < x.1) | none => true) && checkV x.1 x.2.1 per x.2.2 && !emptyV x.2.1 x.2.2.length && (fnv.shardV x.1 sh == k)
def shOk (P : List PA) (k sh per : Int) : Bool := (List.range P.length).all (okI P k sh per)
def shCheck (v : Int) (P : List PA) (k sh per : Int) : Bool := decide (0 ≤ v) && decide (v ≤ 1099511627776) && shOk P k sh per
end Go.Proofs.YtofpmnkkimgkfaaDoor.shard
namespace Go.Proofs.YtofpmnkkimgkfaaDoor.shard
open Go.RowKit Sx txn queue greedy
section
variable {P : Program} {W : World} {Q : Ending → World → Prop} {ds : List Deferred}
end
abbrev T1 : Tx := ⟨3, 1, 5, 9, 1, ByteArray.empty⟩
theorem sl0 : Sl none 0 0 := ⟨Nat.le_refl _, Nat.zero_le _, fun _ => ⟨rfl, rfl⟩⟩
end Go.Proofs.YtofpmnkkimgkfaaDoor.shard
namespace Go.Proofs.YtofpmnkkimgkfaaDoor.shard
open Go.RowKit Go.ChangeShapes Go.WideShapes Sx txn queue greedy
section
variable {H : Type} {enc : TypeId × Value → H} {W : World} {r : Reach} {b0 base : Nat} {spare : Nat → Bool} {held : Bool} {v : Value} {d : DataW H} {p : List MemPlace}
end
end Go.Proofs.YtofpmnkkimgkfaaDoor.shard
