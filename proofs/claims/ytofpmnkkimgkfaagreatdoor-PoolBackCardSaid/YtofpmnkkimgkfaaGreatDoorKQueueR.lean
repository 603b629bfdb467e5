/- Layer 5 (queue): the document's functions over rows of transactions. -/
import Derived.Test.YtofpmnkkimgkfaaGreatDoorKQueueD
set_option linter.all false
set_option maxHeartbeats 4000000
set_option maxRecDepth 100000
namespace Go.Proofs.YtofpmnkkimgkfaaGreatDoor.queue
open Go.RowKit Sx txn
def dropV (v : Int) (l : List Tx) : List Tx := l.filter fun x => x.n != v
theorem rslots_ (s b : Int) (l : List Tx) (a : Option Addr) (n c : Nat) (w : World) (hs : Sl a n c) (hn : n = l.length) (hrow : At w (pt a n) (cellsL l)) (hd : ∀ x ∈ l, x.d.size ≤ maxLen) (hfew : n ≤ 140737488355328) :
  Calls Tryz.prog 123 (List.toArray [acc s b a n c]) w fun e w' => e = .returned (.int .i64 (slotsL l)) ∧ Below w.heap.size w w' := by
 have hn63 := hs.le
 refine calls_of_exec env_ok Tryz.func123 rfl [] (by kernel_rfl) [rowF (pt a n) (cellsL l)] (at1 hrow) ?_
 conv=>arg 5;whnf
 refine loop_rule env_ok [] (by kernel_rfl) (fun k : Nat => k ≤ n) (fun k => (⟨[some ([.v (.int .i64 s), .v (.int .i64 b), .v (.slice a n c)], 65)], [], [rowF (pt a n) (cellsL l)]⟩, sl 21 [(1, .p 0 0), (3, .v (.int .i64 (slotsL (l.take k)))), (4, .v (.int .i64 k))])) (fun k => n - k) 0 (Nat.zero_le _) ⟨by repeat' first | exact trivial | refine ⟨.inl rfl, ?_⟩ | refine ⟨.inr rfl, ?_⟩, ⟨by repeat' first | exact trivial | refine ⟨.inl rfl, ?_⟩ | refine ⟨.inr rfl, ?_⟩, by repeat' first | exact trivial | refine ⟨.inl rfl, ?_⟩ | refine ⟨.inr rfl, ?_⟩, fun _ h => h⟩, rfl⟩ ?_
 intro k hk
 conv=>arg 5;whnf
 refine wp_br (fun h1 => ?_) (fun h1 => ?_)
 ·have hlt : k < n := by simp at h1; omega
  have hx : l[k]? = some l[k] := List.getElem?_eq_getElem (by omega)
  have hdx := hd l[k] (List.mem_of_getElem? hx)
  generalize l[k] = x at hx hdx
  have hb := slotsL_bd (l.take k)
  have hb2 := slotV_bd x
  have hst := slotsL_take l k x hx
  have hlen : (l.take k).length = k := by rw [List.length_take]; omega
  rw [hlen] at hb
  conv=>arg 5;whnf
  refine wp_must ⟨by omega, by omega, hs.some hlt⟩ ?_
  conv=>arg 5;whnf
  refine readX (l := l) (k := k) rfl (List.mem_cons_self) hlt (hs.some hlt) hx rfl ?_
  conv=>arg 5;whnf
  refine meetc rfl (by kernel_rfl) (fun β ρ w' hM' => rslots x w' hdx) ?_
  conv=>arg 5;whnf
  refine wp_must ⟨by omega, by omega⟩ ?_
  conv=>arg 5;whnf
  refine wp_must ⟨by omega, by omega⟩ ?_
  conv=>arg 5;whnf
  refine wp_end ⟨k + 1, hlt, ⟨by rw [hst]; repeat' first | exact trivial | refine ⟨.inl rfl, ?_⟩ | refine ⟨.inr rfl, ?_⟩, ⟨by repeat' first | exact trivial | refine ⟨.inl rfl, ?_⟩ | refine ⟨.inr rfl, ?_⟩, by repeat' first | exact trivial | refine ⟨.inl rfl, ?_⟩ | refine ⟨.inr rfl, ?_⟩, fun _ h => h⟩, rfl⟩, by show n - (k + 1) < n - k; omega⟩
 ·have e1 : l.take k = l := List.take_of_length_le (by simp at h1; omega)
  rw [e1]
  conv=>arg 5;whnf
  exact wp_back fun β ρ w' hM' => ⟨rfl, hM'.below⟩
theorem rsmall (x : Tx) (w : World) : Calls Tryz.prog 38 (List.toArray [x.val]) w fun e w' => e = .returned (.bool (decide (x.d.size ≤ 500))) ∧ Below w.heap.size w w' := by
 refine calls_of_exec env_ok Tryz.func38 rfl [] (by kernel_rfl) [] (by simp) ?_
 conv=>arg 5;whnf
 refine wp_back fun β ρ w' hM' => ⟨?_, hM'.below⟩
 show Ending.returned (.bool (decide ((x.d.size : Int) ≤ 500))) = _
 congr 2
 rw [decide_eq_decide]
 omega
def fewB (l : List Tx) : Bool := l.all fun x => decide (x.d.size ≤ 500)
theorem fewB_drop (l : List Tx) (k : Nat) (x : Tx) (h : l[k]? = some x) : fewB (l.drop k) = (decide (x.d.size ≤ 500) && fewB (l.drop (k + 1))) := by
 obtain ⟨h1, h2⟩ := List.getElem?_eq_some_iff.1 h
 rw [List.drop_eq_getElem_cons h1, h2]
 rfl
theorem rfew (l : List Tx) (a : Option Addr) (n c : Nat) (m : Int) (w : World) (hs : Sl a n c) (hn : n = l.length) (hrow : At w (pt a n) (cellsL l)) :
  Calls Tryz.prog 58 (List.toArray [.slice a n c, .int .i64 m]) w fun e w' => e = .returned (.bool (fewB l && decide ((n : Int) ≤ m))) ∧ Below w.heap.size w w' := by
 have hn63 := hs.le
 refine calls_of_exec env_ok Tryz.func58 rfl [] (by kernel_rfl) [rowF (pt a n) (cellsL l)] (at1 hrow) ?_
 conv=>arg 5;whnf
 refine loop_rule env_ok [] (by kernel_rfl) (fun k : Nat => k ≤ n ∧ fewB l = fewB (l.drop k)) (fun k => (⟨[], [], [rowF (pt a n) (cellsL l)]⟩, sl 22 [(0, .v (.slice a n c)), (1, .v (.int .i64 m)), (4, .v (.bool false)), (5, .v (.int .i64 k))])) (fun k => n - k) 0 (⟨Nat.zero_le _, rfl⟩) ⟨by repeat' first | exact trivial | refine ⟨.inl rfl, ?_⟩ | refine ⟨.inr rfl, ?_⟩, ⟨by repeat' first | exact trivial | refine ⟨.inl rfl, ?_⟩ | refine ⟨.inr rfl, ?_⟩, by repeat' first | exact trivial | refine ⟨.inl rfl, ?_⟩ | refine ⟨.inr rfl, ?_⟩, fun _ h => h⟩, rfl⟩ ?_
 rintro k ⟨hk, hr⟩
 conv=>arg 5;whnf
 refine wp_br (fun h1 => ?_) (fun h1 => ?_)
 ·have hlt : k < n := by simp at h1; omega
  have hx : l[k]? = some l[k] := List.getElem?_eq_getElem (by omega)
  generalize l[k] = x at hx
  rw [fewB_drop l k x hx] at hr
  conv=>arg 5;whnf
  refine wp_must ⟨by omega, by omega, hs.some hlt⟩ ?_
  conv=>arg 5;whnf
  refine readX (l := l) (k := k) rfl (List.mem_cons_self) hlt (hs.some hlt) hx rfl ?_
  conv=>arg 5;whnf
  refine meetc rfl (by kernel_rfl) (fun β ρ w' hM' => rsmall x w') ?_
  conv=>arg 5;whnf
  refine wp_br (fun h2 => ?_) (fun h2 => ?_)
  ·have h2 : decide (x.d.size ≤ 500) = false := by simpa using h2
   rw [h2] at hr
   conv=>arg 5;whnf
   exact wp_back fun β ρ w' hM' => ⟨by rw [hr]; rfl, hM'.below⟩
  ·have h2 : decide (x.d.size ≤ 500) = true := by simpa using h2
   rw [h2, Bool.true_and] at hr
   conv=>arg 5;whnf
   refine wp_must ⟨by omega, by omega⟩ ?_
   conv=>arg 5;whnf
   refine wp_end ⟨k + 1, ⟨hlt, hr⟩, ⟨by repeat' first | exact trivial | refine ⟨.inl rfl, ?_⟩ | refine ⟨.inr rfl, ?_⟩, ⟨by repeat' first | exact trivial | refine ⟨.inl rfl, ?_⟩ | refine ⟨.inr rfl, ?_⟩, by repeat' first | exact trivial | refine ⟨.inl rfl, ?_⟩ | refine ⟨.inr rfl, ?_⟩, fun _ h => h⟩, rfl⟩, by show n - (k + 1) < n - k; omega⟩
 ·rw [List.drop_eq_nil_of_le (by simp at h1; omega)] at hr
  conv=>arg 5;whnf
  exact wp_back fun β ρ w' hM' => ⟨by rw [hr]; rfl, hM'.below⟩
theorem rfind (s b : Int) (l : List Tx) (a : Option Addr) (n c : Nat) (v : Int) (w : World) (hs : Sl a n c) (hn : n = l.length) (hrow : At w (pt a n) (cellsL l)) :
  Calls Tryz.prog 34 (List.toArray [acc s b a n c, .int .i64 v]) w fun e w' => e = .returned (.tuple #[(findV l v).1.val, .bool (findV l v).2]) ∧ Below w.heap.size w w' := by
 have hn63 := hs.le
 refine calls_of_exec env_ok Tryz.func34 rfl [] (by kernel_rfl) [rowF (pt a n) (cellsL l)] (at1 hrow) ?_
 conv=>arg 5;whnf
 refine loop_rule env_ok [] (by kernel_rfl) (fun k : Nat => k ≤ n ∧ srch (fun _ m => m == v) l 0 = srch (fun _ m => m == v) (l.drop k) k) (fun k => (⟨[some ([.v (.int .i64 s), .v (.int .i64 b), .v (.slice a n c)], 65), some ([.v (.int .i64 0), .v (.int .i64 0), .v (.int .i64 0), .v (.int .i64 0), .v (.int .i64 0), .v (.string ByteArray.empty)], 31)], [], [rowF (pt a n) (cellsL l)]⟩, sl 28 [(1, .v (.int .i64 v)), (2, .p 0 0), (4, .p 1 0), (5, .v (.bool false)), (6, .v (.int .i64 k))])) (fun k => n - k) 0 (⟨Nat.zero_le _, rfl⟩) ⟨by repeat' first | exact trivial | refine ⟨.inl rfl, ?_⟩ | refine ⟨.inr rfl, ?_⟩, ⟨by repeat' first | exact trivial | refine ⟨.inl rfl, ?_⟩ | refine ⟨.inr rfl, ?_⟩, by repeat' first | exact trivial | refine ⟨.inl rfl, ?_⟩ | refine ⟨.inr rfl, ?_⟩, fun _ h => h⟩, rfl⟩ ?_
 rintro k ⟨hk, hr⟩
 conv=>arg 5;whnf
 refine wp_br (fun h1 => ?_) (fun h1 => ?_)
 ·have hlt : k < n := by simp at h1; omega
  have hx : l[k]? = some l[k] := List.getElem?_eq_getElem (by omega)
  generalize l[k] = x at hx
  rw [srch_drop _ l k k x hx] at hr
  conv=>arg 5;whnf
  refine wp_must ⟨by omega, by omega, hs.some hlt⟩ ?_
  conv=>arg 5;whnf
  refine read1 (.int .i64 x.n) rfl (List.mem_cons_self) hlt (hs.some hlt) hx (f := 1) rfl rfl ?_
  conv=>arg 5;whnf
  refine wp_br (fun h2 => ?_) (fun h2 => ?_)
  ·rw [h2] at hr
   have hr : srch (fun _ m => m == v) l 0 = k := hr
   have hfv : findV l v = (x, true) := by unfold findV; rw [hr, hx]
   conv=>arg 5;whnf
   refine wp_must ⟨by omega, by omega, hs.some hlt⟩ ?_
   conv=>arg 5;whnf
   refine readX (l := l) (k := k) rfl (List.mem_cons_self) hlt (hs.some hlt) hx rfl ?_
   conv=>arg 5;whnf
   exact wp_back fun β ρ w' hM' => ⟨by rw [hfv]; rfl, hM'.below⟩
  ·rw [h2] at hr
   conv=>arg 5;whnf
   refine wp_must ⟨by omega, by omega⟩ ?_
   conv=>arg 5;whnf
   refine wp_end ⟨k + 1, ⟨hlt, hr⟩, ⟨by repeat' first | exact trivial | refine ⟨.inl rfl, ?_⟩ | refine ⟨.inr rfl, ?_⟩, ⟨by repeat' first | exact trivial | refine ⟨.inl rfl, ?_⟩ | refine ⟨.inr rfl, ?_⟩, by repeat' first | exact trivial | refine ⟨.inl rfl, ?_⟩ | refine ⟨.inr rfl, ?_⟩, fun _ h => h⟩, rfl⟩, by show n - (k + 1) < n - k; omega⟩
 ·have hkn : k = n := by simp at h1; omega
  rw [List.drop_eq_nil_of_le (by omega)] at hr
  have hr : srch (fun _ m => m == v) l 0 = k := hr
  have hfv : findV l v = (tx0, false) := by unfold findV; rw [hr, List.getElem?_eq_none (by omega)]
  conv=>arg 5;whnf
  exact wp_back fun β ρ w' hM' => ⟨by rw [hfv]; rfl, hM'.below⟩
end Go.Proofs.YtofpmnkkimgkfaaGreatDoor.queue
