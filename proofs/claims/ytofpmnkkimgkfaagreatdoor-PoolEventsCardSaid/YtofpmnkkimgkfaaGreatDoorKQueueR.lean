/- Layer 5 (queue): the document's functions over rows of transactions. -/
import Derived.Test.YtofpmnkkimgkfaaGreatDoorKQueueD
set_option linter.all false
set_option maxHeartbeats 4000000
set_option maxRecDepth 100000
namespace Go.Proofs.YtofpmnkkimgkfaaGreatDoor.queue
open Go.RowKit Sx txn
def dropV (v : Int) (l : List Tx) : List Tx := l.filter fun x => x.n != v
theorem rdrop (s b : Int) (l : List Tx) (a : Option Addr) (n c : Nat) (v : Int) (w : World) (hs : Sl a n c) (hn : n = l.length) (hrow : At w (pt a n) (cellsL l)) (hl : l.length ≤ 1000000) :
  Calls Tryz.prog 35 (List.toArray [acc s b a n c, .int .i64 v]) w fun e w' => ∃ i : One, Sl i.1 (dropV v l).length i.2 ∧ Gives w w' e (acc s b i.1 (dropV v l).length i.2) [rowF (pt i.1 (dropV v l).length) (cellsL (dropV v l))] := by
 have hn63 := hs.le
 refine calls_of_exec env_ok Tryz.func35 rfl [] (by kernel_rfl) [rowF (pt a n) (cellsL l)] (at1 hrow) ?_
 conv=>arg 5;whnf
 refine loop_nil 5 31 6 rfl ?_
 refine loop_rule env_ok [] (by kernel_rfl) (fun k : Nat => k ≤ n) (fun k => (⟨[some ([.v (.int .i64 s), .v (.int .i64 b), .v (.slice a n c)], 65), some ([.v (.int .i64 0), .v (.int .i64 0), .v (.slice none 0 0)], 65)], [some ⟨31, 6, (dropV v (l.take k)).length, cellsL (dropV v (l.take k))⟩], [rowF (pt a n) (cellsL l)]⟩, sl 33 [(1, .v (.int .i64 v)), (2, .p 0 0), (4, .p 1 0), (5, .r 0), (6, .v (.int .i64 k))])) (fun k => n - k) 0 (Nat.zero_le _) ⟨by repeat' first | exact trivial | refine ⟨.inl rfl, ?_⟩ | refine ⟨.inr rfl, ?_⟩, ⟨by repeat' first | exact trivial | refine ⟨.inl rfl, ?_⟩ | refine ⟨.inr rfl, ?_⟩, by repeat' first | exact trivial | refine ⟨.inl rfl, ?_⟩ | refine ⟨.inr rfl, ?_⟩, fun _ h => h⟩, rfl⟩ ?_
 intro k hk
 conv=>arg 5;whnf
 refine wp_br (fun h1 => ?_) (fun h1 => ?_)
 ·have hlt : k < n := by simp at h1; omega
  have hx : l[k]? = some l[k] := List.getElem?_eq_getElem (by omega)
  generalize l[k] = x at hx
  conv=>arg 5;whnf
  refine wp_must ⟨by omega, by omega, hs.some hlt⟩ ?_
  conv=>arg 5;whnf
  refine read1 (.int .i64 x.n) rfl (List.mem_cons_self) hlt (hs.some hlt) hx (f := 1) rfl rfl ?_
  conv=>arg 5;whnf
  refine wp_br (fun h2 => ?_) (fun h2 => ?_)
  ·have eo : dropV v (l.take (k + 1)) = dropV v (l.take k) ++ [x] := by unfold dropV; rw [filt_take _ l k x hx, if_pos (by simpa using h2)]
   have ec : cellsL (dropV v (l.take (k + 1))) = cellsL (dropV v (l.take k)) ++ cellsX x := by rw [eo, cellsL_snoc]
   have el : (dropV v (l.take (k + 1))).length = (dropV v (l.take k)).length + 1 := by rw [eo]; simp
   have hlen : (dropV v (l.take k)).length ≤ l.length := filt_len _ l k
   conv=>arg 5;whnf
   refine wp_must ⟨by omega, by omega, hs.some hlt⟩ ?_
   conv=>arg 5;whnf
   refine readX (l := l) (k := k) rfl (List.mem_cons_self) hlt (hs.some hlt) hx rfl ?_
   conv=>arg 5;whnf
   refine wp_must ⟨by show (dropV v (l.take k)).length + 1 ≤ maxLen; have := hlen; unfold maxLen; omega, by show ((dropV v (l.take k)).length + 1) * 56 ≤ 140737488355328; have := hlen; omega⟩ ?_
   conv=>arg 5;whnf
   refine wp_must ⟨by omega, by omega⟩ ?_
   conv=>arg 5;whnf
   refine wp_end ⟨k + 1, hlt, ⟨by repeat' first | exact trivial | refine ⟨.inl rfl, ?_⟩ | refine ⟨.inr rfl, ?_⟩, ⟨by repeat' first | exact trivial | refine ⟨.inl rfl, ?_⟩ | refine ⟨.inr rfl, ?_⟩, by rw [ec, el]; repeat' first | exact trivial | refine ⟨.inl rfl, ?_⟩ | refine ⟨.inr rfl, ?_⟩, fun _ h => h⟩, rfl⟩, by show n - (k + 1) < n - k; omega⟩
  ·have en : dropV v (l.take (k + 1)) = dropV v (l.take k) := by unfold dropV; rw [filt_take _ l k x hx, if_neg (by simpa using h2), List.append_nil]
   conv=>arg 5;whnf
   refine wp_must ⟨by omega, by omega⟩ ?_
   conv=>arg 5;whnf
   refine wp_end ⟨k + 1, hlt, ⟨by repeat' first | exact trivial | refine ⟨.inl rfl, ?_⟩ | refine ⟨.inr rfl, ?_⟩, ⟨by repeat' first | exact trivial | refine ⟨.inl rfl, ?_⟩ | refine ⟨.inr rfl, ?_⟩, by rw [en]; repeat' first | exact trivial | refine ⟨.inl rfl, ?_⟩ | refine ⟨.inr rfl, ?_⟩, fun _ h => h⟩, rfl⟩, by show n - (k + 1) < n - k; omega⟩
 ·have e1 : l.take k = l := List.take_of_length_le (by simp at h1; omega)
  rw [e1]
  conv=>arg 5;whnf
  refine wp_share fun a1 c1 hs1 hf1 => ?_
  conv=>arg 5;whnf
  refine wp_back fun β ρ w' hM' => ⟨(a1, c1), hs1, rfl, hM'.below, ?_⟩
  intro φ hφ
  simp only [List.mem_cons, List.not_mem_nil, or_false] at hφ
  subst hφ
  exact giveF _ hM' List.mem_cons_self hf1
theorem rslots_ (s b : Int) (l : List Tx) (a : Option Addr) (n c : Nat) (w : World) (hs : Sl a n c) (hn : n = l.length) (hrow : At w (pt a n) (cellsL l)) (hd : ∀ x ∈ l, x.d.size ≤ maxLen) (hfew : n ≤ 140737488355328) :
  Calls Tryz.prog 123 (List.toArray [acc s b a n c]) w fun e w' => e = .returned (.int .i64 (slotsL l)) ∧ Below w.heap.size w w' := by
 have hn63 := hs.le
 refine calls_of_exec env_ok Tryz.func123 rfl [] (by kernel_rfl) [rowF (pt a n) (cellsL l)] (at1 hrow) ?_
 conv=>arg 5;whnf
 refine loop_rule env_ok [] (by kernel_rfl) (fun k : Nat => k ≤ n) (fun k => (⟨[some ([.v (.int .i64 s), .v (.int .i64 b), .v (.slice a n c)], 65)], [], [rowF (pt a n) (cellsL l)]⟩, sl 21 [(1, .p 0 0), (3, .v (.int .i64 (slotsL (l.take k)))), (4, .v (.int .i64 k))])) (fun k => n - k) 0 (Nat.zero_le _) ⟨by repeat' first | exact trivial | refine ⟨.inl rfl, ?_⟩ | refine ⟨.inr rfl, ?_⟩, ⟨by repeat' first | exact trivial | refine ⟨.inl rfl, ?_⟩ | refine ⟨.inr rfl, ?_⟩, by repeat' first | exact trivial | refine ⟨.inl rfl, ?_⟩ | refine ⟨.inr rfl, ?_⟩, fun _ h => h⟩, rfl⟩ ?_
 intro k hk
 conv=>arg 5;whnf
 refine wp_br (fun h1 => ?_) (fun h1 => ?_)
 ·have hlt : k < n := by simp at h1; omega
  have hx : l[k]? = some l[k] := List.getElem?_eq_getElem (by omega)
  have hdx := hd l[k] (List.mem_of_getElem? hx)
  generalize l[k] = x at hx hdx
  have hb := slotsL_bd (l.take k)
  have hb2 := slotV_bd x
  have hst := slotsL_take l k x hx
  have hlen : (l.take k).length = k := by rw [List.length_take]; omega
  rw [hlen] at hb
  conv=>arg 5;whnf
  refine wp_must ⟨by omega, by omega, hs.some hlt⟩ ?_
  conv=>arg 5;whnf
  refine readX (l := l) (k := k) rfl (List.mem_cons_self) hlt (hs.some hlt) hx rfl ?_
  conv=>arg 5;whnf
  refine meetc rfl (by kernel_rfl) (fun β ρ w' hM' => rslots x w' hdx) ?_
  conv=>arg 5;whnf
  refine wp_must ⟨by omega, by omega⟩ ?_
  conv=>arg 5;whnf
  refine wp_must ⟨by omega, by omega⟩ ?_
  conv=>arg 5;whnf
  refine wp_end ⟨k + 1, hlt, ⟨by rw [hst]; repeat' first | exact trivial | refine ⟨.inl rfl, ?_⟩ | refine ⟨.inr rfl, ?_⟩, ⟨by repeat' first | exact trivial | refine ⟨.inl rfl, ?_⟩ | refine ⟨.inr rfl, ?_⟩, by repeat' first | exact trivial | refine ⟨.inl rfl, ?_⟩ | refine ⟨.inr rfl, ?_⟩, fun _ h => h⟩, rfl⟩, by show n - (k + 1) < n - k; omega⟩
 ·have e1 : l.take k = l := List.take_of_length_le (by simp at h1; omega)
  rw [e1]
  conv=>arg 5;whnf
  exact wp_back fun β ρ w' hM' => ⟨rfl, hM'.below⟩
theorem rfind (s b : Int) (l : List Tx) (a : Option Addr) (n c : Nat) (v : Int) (w : World) (hs : Sl a n c) (hn : n = l.length) (hrow : At w (pt a n) (cellsL l)) :
  Calls Tryz.prog 34 (List.toArray [acc s b a n c, .int .i64 v]) w fun e w' => e = .returned (.tuple #[(findV l v).1.val, .bool (findV l v).2]) ∧ Below w.heap.size w w' := by
 have hn63 := hs.le
 refine calls_of_exec env_ok Tryz.func34 rfl [] (by kernel_rfl) [rowF (pt a n) (cellsL l)] (at1 hrow) ?_
 conv=>arg 5;whnf
 refine loop_rule env_ok [] (by kernel_rfl) (fun k : Nat => k ≤ n ∧ srch (fun _ m => m == v) l 0 = srch (fun _ m => m == v) (l.drop k) k) (fun k => (⟨[some ([.v (.int .i64 s), .v (.int .i64 b), .v (.slice a n c)], 65), some ([.v (.int .i64 0), .v (.int .i64 0), .v (.int .i64 0), .v (.int .i64 0), .v (.int .i64 0), .v (.string ByteArray.empty)], 31)], [], [rowF (pt a n) (cellsL l)]⟩, sl 28 [(1, .v (.int .i64 v)), (2, .p 0 0), (4, .p 1 0), (5, .v (.bool false)), (6, .v (.int .i64 k))])) (fun k => n - k) 0 (⟨Nat.zero_le _, rfl⟩) ⟨by repeat' first | exact trivial | refine ⟨.inl rfl, ?_⟩ | refine ⟨.inr rfl, ?_⟩, ⟨by repeat' first | exact trivial | refine ⟨.inl rfl, ?_⟩ | refine ⟨.inr rfl, ?_⟩, by repeat' first | exact trivial | refine ⟨.inl rfl, ?_⟩ | refine ⟨.inr rfl, ?_⟩, fun _ h => h⟩, rfl⟩ ?_
 rintro k ⟨hk, hr⟩
 conv=>arg 5;whnf
 refine wp_br (fun h1 => ?_) (fun h1 => ?_)
 ·have hlt : k < n := by simp at h1; omega
  have hx : l[k]? = some l[k] := List.getElem?_eq_getElem (by omega)
  generalize l[k] = x at hx
  rw [srch_drop _ l k k x hx] at hr
  conv=>arg 5;whnf
  refine wp_must ⟨by omega, by omega, hs.some hlt⟩ ?_
  conv=>arg 5;whnf
  refine read1 (.int .i64 x.n) rfl (List.mem_cons_self) hlt (hs.some hlt) hx (f := 1) rfl rfl ?_
  conv=>arg 5;whnf
  refine wp_br (fun h2 => ?_) (fun h2 => ?_)
  ·rw [h2] at hr
   have hr : srch (fun _ m => m == v) l 0 = k := hr
   have hfv : findV l v = (x, true) := by unfold findV; rw [hr, hx]
   conv=>arg 5;whnf
   refine wp_must ⟨by omega, by omega, hs.some hlt⟩ ?_
   conv=>arg 5;whnf
   refine readX (l := l) (k := k) rfl (List.mem_cons_self) hlt (hs.some hlt) hx rfl ?_
   conv=>arg 5;whnf
   exact wp_back fun β ρ w' hM' => ⟨by rw [hfv]; rfl, hM'.below⟩
  ·rw [h2] at hr
   conv=>arg 5;whnf
   refine wp_must ⟨by omega, by omega⟩ ?_
   conv=>arg 5;whnf
   refine wp_end ⟨k + 1, ⟨hlt, hr⟩, ⟨by repeat' first | exact trivial | refine ⟨.inl rfl, ?_⟩ | refine ⟨.inr rfl, ?_⟩, ⟨by repeat' first | exact trivial | refine ⟨.inl rfl, ?_⟩ | refine ⟨.inr rfl, ?_⟩, by repeat' first | exact trivial | refine ⟨.inl rfl, ?_⟩ | refine ⟨.inr rfl, ?_⟩, fun _ h => h⟩, rfl⟩, by show n - (k + 1) < n - k; omega⟩
 ·have hkn : k = n := by simp at h1; omega
  rw [List.drop_eq_nil_of_le (by omega)] at hr
  have hr : srch (fun _ m => m == v) l 0 = k := hr
  have hfv : findV l v = (tx0, false) := by unfold findV; rw [hr, List.getElem?_eq_none (by omega)]
  conv=>arg 5;whnf
  exact wp_back fun β ρ w' hM' => ⟨by rw [hfv]; rfl, hM'.below⟩
end Go.Proofs.YtofpmnkkimgkfaaGreatDoor.queue
