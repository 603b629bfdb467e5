/- Layer 5 (queue): the library's functions over rows of transactions that it calls: Clone, Grow. -/
import Derived.Test.YtofpmnkkimgkfaaGreatDoorKQueueB
import Derived.Test.YtofpmnkkimgkfaaGreatDoorKSxx
import Derived.Lib.SliceRun
set_option linter.all false
set_option maxHeartbeats 4000000
set_option maxRecDepth 100000
namespace Go.Proofs.YtofpmnkkimgkfaaGreatDoor.queue
open Go.RowKit Sx txn
theorem clone (l : List Tx) (a : Option Addr) (n c : Nat) (w : World) (hs : Sl a n c) (hn : n = l.length) (hrow : At w (pt a n) (cellsL l)) (hl : l.length ≤ 1000000) :
  Calls Tryz.prog 87 #[.slice a n c] w fun e w' => ∃ v, e = .returned v ∧ Below w.heap.size w w' ∧ w'.ownsRow w.heap.size 31 6 v n (cellsL l) := by
 refine calls_of_row env_ok Tryz.func87 rfl [] (by kernel_rfl) (n := 2) rfl [.v (.slice a n c)] ⟨[], [], [rowF (pt a n) (cellsL l)]⟩ [] (mem_plain _ (at1 hrow)) (Rels.vals [.slice a n c]) ?_
 refine wp_prim (.bool a.isNone) (fun w => by simp [eqGuard, Lib.run_eql_slice_nil w _ _ a n c 0 0 Tryz.underlying32]) ?_
 refine wp_br (fun h1 => ?_) (fun h1 => ?_)
 ·cases a with
  | some _ => cases h1
  | none =>
   have h0 := (hs.2.2 rfl).1
   exact wp_back fun β ρ w' hM' => ⟨_, rfl, hM'.below, by
    have hl0 : l = [] := List.eq_nil_of_length_eq_zero (by omega)
    subst hl0
    exact ⟨by simp [cellsL, h0], .inl ⟨rfl, h0⟩⟩⟩
 ·refine ⟨cellsL l, by rw [cellsL_length, hn], cellsL_one l, fun β ρ w' hM' ad had j u hu => ?_, ?_⟩
  ·subst had
   have h1 := hM'.at_ List.mem_cons_self
   rw [pt_pos (k := 0) (by have := cellsL_pos hu; omega)] at h1
   exact h1.cell hu
  ·refine wp_must ⟨by show 0 + n ≤ maxLen; unfold maxLen; omega, by show (0 + n) * 56 ≤ 140737488355328; omega, fun ha => hs.2.2 ha⟩ ?_
   refine wp_end (fun β ρ w' v hM' hv => ⟨v, rfl, hM'.below, ?_⟩)
   have := hM'.mine (i := 0) (r := ⟨31, 6, 0 + n, [] ++ cellsL l⟩) rfl hv
   simpa using this
theorem grow (k : Nat) (w : World) (hk : k ≤ 1000000) :
  Calls Tryz.prog 206 #[.slice none 0 0, .int .i64 k] w fun e w' => ∃ v, e = .returned v ∧ Below w.heap.size w w' ∧ w'.ownsRow w.heap.size 31 6 v 0 [] := by
 refine calls_of_row env_ok Tryz.func206 rfl [] (by kernel_rfl) (n := 4) rfl [.v (.slice none 0 0), .v (.int .i64 k)] ⟨[], [], []⟩ [] (mem_plain _ (by simp)) (Rels.vals [.slice none 0 0, .int .i64 k]) ?_
 refine wp_must ⟨by omega, by omega⟩ ?_
 refine wp_must ⟨by omega, by omega⟩ ?_
 refine wp_br (fun h2 => ?_) (fun h2 => ?_)
 ·refine wp_prim (.slice none 0 0) (fun w => by simp [Instr.sliceAt, Instr.slice, run_underlying Tryz.underlying32, Sem.run_bind, go_sem]) ?_
  have h2 : (0 : Int) < (k : Int) - (0 - 0) := by simpa using h2
  refine wp_must ⟨h2, by omega, by omega⟩ ?_
  intro xs hx
  refine wp_must ⟨by omega, by omega⟩ ?_
  refine wp_end (fun β ρ w' v hM' hv => ⟨v, rfl, hM'.below, ?_⟩)
  have := hM'.mine (i := 0) (r := ⟨31, 6, 0, xs.take 0⟩) rfl hv
  simpa using this
 ·exact wp_back fun β ρ w' hM' => ⟨_, rfl, hM'.below, rfl, .inl ⟨rfl, rfl⟩⟩
def idx (p : Tx → Bool) : List Tx → Nat → Int
 | [], _ => -1
 | x :: l, k => if p x then k else idx p l (k + 1)
theorem idx_drop (p : Tx → Bool) (l : List Tx) (k : Nat) (x : Tx) (h : l[k]? = some x) : idx p (l.drop k) k = if p x then (k : Int) else idx p (l.drop (k + 1)) (k + 1) := by
 obtain ⟨h1, h2⟩ := List.getElem?_eq_some_iff.1 h
 rw [List.drop_eq_getElem_cons h1, h2]
 rfl
theorem indexFunc (l : List Tx) (a : Option Addr) (n c : Nat) (g : FuncId) (cs : List Value) (p : Tx → Bool) (w : World) (hs : Sl a n c) (hn : n = l.length) (hrow : At w (pt a n) (cellsL l)) (hg : callable Tryz.prog g = true)
  (hp : ∀ (x : Tx) (w' : World), x ∈ l → Below w.heap.size w w' → Calls Tryz.prog g (List.toArray ([x.val] ++ cs)) w' fun e w'' => e = .returned (.bool (p x)) ∧ Below w'.heap.size w' w'') :
  Calls Tryz.prog 201 (List.toArray [.slice a n c, .func (.func g) #[] cs.toArray]) w fun e w' => e = .returned (.int .i64 (idx p l 0)) ∧ Below w.heap.size w w' := by
 refine calls_of_exec env_ok Tryz.func201 rfl [] (by kernel_rfl) [rowF (pt a n) (cellsL l)] (at1 hrow) ?_
 have hn63 := hs.le
 refine loop_rule env_ok [] (by kernel_rfl) (fun k : Nat => k ≤ n ∧ idx p l 0 = idx p (l.drop k) k) (fun k => (⟨[], [], [rowF (pt a n) (cellsL l)]⟩, [.v (.slice a n c), .v (.func (.func g) #[] cs.toArray), .any, .any, .v (.int .i64 0), .any, .any, .v (.int .i64 n), .v (.int .i64 k), .any, .any, .any, .any, .any, .any, .any, .any, .any, .any])) (fun k => n - k) 0 ⟨Nat.zero_le _, rfl⟩ ⟨by repeat' first | exact trivial | refine ⟨.inl rfl, ?_⟩ | refine ⟨.inr rfl, ?_⟩, ⟨by repeat' first | exact trivial | refine ⟨.inl rfl, ?_⟩ | refine ⟨.inr rfl, ?_⟩, by repeat' first | exact trivial | refine ⟨.inl rfl, ?_⟩ | refine ⟨.inr rfl, ?_⟩, fun _ h => h⟩, rfl⟩ ?_
 rintro k ⟨hk, hsr⟩
 refine wp_br (fun h1 => ?_) (fun h1 => ?_)
 ·have hlt : k < n := by simp at h1; omega
  refine wp_must ⟨by omega, by omega, hs.some hlt⟩ ?_
  have hx : l[k]? = some l[k] := List.getElem?_eq_getElem (by omega)
  have hm := List.mem_of_getElem? hx
  generalize l[k] = x at hx hm
  refine readX (l := l) (k := k) rfl (List.mem_cons_self) hlt (hs.some hlt) hx rfl ?_
  refine meet (.bool (p x)) hg (fun β ρ w' vs hM' hR => ?_) ?_
  ·obtain rfl := Rels.vals_eq (l := [x.val] ++ cs) hR
   exact hp x w' hm hM'.below
  rw [idx_drop p l k x hx] at hsr
  refine wp_br (fun h2 => ?_) (fun h2 => ?_)
  ·refine wp_back fun β ρ w' hM' => ⟨?_, hM'.below⟩
   rw [hsr, h2]
   rfl
  ·refine wp_must ⟨by omega, by omega⟩ ?_
   refine wp_end ⟨k + 1, ⟨hlt, by rw [hsr, h2]; rfl⟩, ⟨by repeat' first | exact trivial | refine ⟨.inl rfl, ?_⟩ | refine ⟨.inr rfl, ?_⟩, ⟨by repeat' first | exact trivial | refine ⟨.inl rfl, ?_⟩ | refine ⟨.inr rfl, ?_⟩, by repeat' first | exact trivial | refine ⟨.inl rfl, ?_⟩ | refine ⟨.inr rfl, ?_⟩, fun _ h => h⟩, rfl⟩, by show n - (k + 1) < n - k; omega⟩
 ·refine wp_back fun β ρ w' hM' => ⟨?_, hM'.below⟩
  rw [hsr, List.drop_eq_nil_of_le (by simp at h1; omega)]
  rfl
structure Pt where
 a : Option Addr
 n : Nat
 c : Nat
 l : List Tx
def Pt.v (q : Pt) : Value := .slice q.a q.n q.c
def flat (ps : List Pt) : List Tx := ps.flatMap Pt.l
theorem flat_take (ps : List Pt) (k : Nat) (q : Pt) (h : ps[k]? = some q) : flat (ps.take (k + 1)) = flat (ps.take k) ++ q.l := by
 rw [List.take_add_one, h]
 simp [flat]
theorem concat (ps : List Pt) (A : Option Addr) (N C : Nat) (w : World) (hS : Sl A N C) (hN : N = ps.length) (hrow : At w A (ps.map Pt.v)) (hps : ∀ q ∈ ps, Sl q.a q.n q.c ∧ q.n = q.l.length ∧ At w (pt q.a q.n) (cellsL q.l)) (hl : (flat ps).length ≤ 1000000) :
  Calls Tryz.prog 178 #[.slice A N C] w fun e w' => ∃ v, e = .returned v ∧ Below w.heap.size w w' ∧ w'.ownsRow w.heap.size 31 6 v (flat ps).length (cellsL (flat ps)) := by
 have hF : ∀ φ ∈ (rowF A (ps.map Pt.v) :: ps.map (fun q => rowF (pt q.a q.n) (cellsL q.l))), ∀ g, φ.g = some g → ∃ o, w.heap[g]? = some o ∧ φ.holds o := by
  intro φ hφ
  rcases List.mem_cons.1 hφ with rfl | h
  ·exact hrow
  ·obtain ⟨q, hq, rfl⟩ := List.mem_map.1 h
   exact (hps q hq).2.2
 have hN63 := hS.le
 have hle : ∀ k, (flat (ps.take k)).length ≤ 1000000 := by
  intro k
  have e : flat ps = flat (ps.take k) ++ flat (ps.drop k) := by unfold flat; rw [← List.flatMap_append, List.take_append_drop]
  rw [e, List.length_append] at hl
  omega
 refine calls_of_row env_ok Tryz.func178 rfl [] (by kernel_rfl) (n := 2) rfl [.v (.slice A N C)] ⟨[], [], (rowF A (ps.map Pt.v) :: ps.map (fun q => rowF (pt q.a q.n) (cellsL q.l)))⟩ [] (mem_plain _ hF) (Rels.vals [.slice A N C]) ?_
 refine loop_rule env_ok [] (by kernel_rfl) (fun k : Nat => k ≤ N) (fun k => (⟨[], [], (rowF A (ps.map Pt.v) :: ps.map (fun q => rowF (pt q.a q.n) (cellsL q.l)))⟩, [.v (.slice A N C), .any, .v (.slice none 0 0), .v (.int .i64 ((flat (ps.take k)).length : Nat)), .any, .any, .any, .any, .any, .v (.slice A N C), .v (.int .i64 N), .v (.int .i64 k), .any, .any, .any, .any, .any, .any, .any, .any, .any, .any, .any, .any, .any, .any, .any, .any, .any, .any, .any, .any, .any, .any, .any, .any])) (fun k => N - k) 0 (Nat.zero_le _) ⟨by repeat' first | exact trivial | refine ⟨.inl rfl, ?_⟩ | refine ⟨.inr rfl, ?_⟩, ⟨by repeat' first | exact trivial | refine ⟨.inl rfl, ?_⟩ | refine ⟨.inr rfl, ?_⟩, by repeat' first | exact trivial | refine ⟨.inl rfl, ?_⟩ | refine ⟨.inr rfl, ?_⟩, fun _ h => h⟩, rfl⟩ ?_
 intro k hk
 refine wp_br (fun h1 => ?_) (fun h1 => ?_)
 ·have hlt : k < N := by simp at h1; omega
  have hx : ps[k]? = some ps[k] := List.getElem?_eq_getElem (by omega)
  have hq := hps ps[k] (List.mem_of_getElem? hx)
  generalize ps[k] = q at hx hq
  obtain ⟨ad, rfl⟩ := Option.isSome_iff_exists.1 (hS.some hlt)
  refine wp_must ⟨by omega, by omega, rfl⟩ ?_
  refine readC (xs := ps.map Pt.v) (j := k) q.v rfl List.mem_cons_self (by rw [List.getElem?_map, hx]; rfl) (by show ad.add (k * 1) = ad.add k; rw [Nat.mul_one]) ?_
  have hl1 := congrArg List.length (flat_take ps k q hx)
  rw [List.length_append, ← hq.2.1] at hl1
  have hb1 := hle (k + 1)
  refine wp_must ⟨by omega, by omega⟩ ?_
  refine wp_must ⟨by omega, by omega⟩ ?_
  refine wp_end ⟨k + 1, hlt, ⟨by rw [hl1]; repeat' first | exact trivial | refine ⟨.inl rfl, ?_⟩ | refine ⟨.inr rfl, ?_⟩, ⟨by repeat' first | exact trivial | refine ⟨.inl rfl, ?_⟩ | refine ⟨.inr rfl, ?_⟩, by repeat' first | exact trivial | refine ⟨.inl rfl, ?_⟩ | refine ⟨.inr rfl, ?_⟩, fun _ h => h⟩, rfl⟩, by show N - (k + 1) < N - k; omega⟩
 ·have hkN : k = N := by simp at h1; omega
  have e1 : ps.take k = ps := List.take_of_length_le (by omega)
  refine ⟨by kernel_rfl, fun β ρ w' vs hM' hR => ?_⟩
  obtain rfl := Rels.vals_eq (l := [.slice none 0 0, .int .i64 ((flat (ps.take k)).length : Nat)]) hR
  refine (grow _ w' (hle k)).mono ?_
  rintro e w'' ⟨v, rfl, hb, ho⟩
  refine ⟨v, 0, [], rfl, hb, ho, ?_⟩
  refine loop_rule env_ok [] (by kernel_rfl) (fun k : Nat => k ≤ N) (fun k => (⟨[], [some ⟨31, 6, (flat (ps.take k)).length, cellsL (flat (ps.take k))⟩], (rowF A (ps.map Pt.v) :: ps.map (fun q => rowF (pt q.a q.n) (cellsL q.l)))⟩, [.v (.slice A N C), .any, .v (.slice none 0 0), .any, .any, .any, .r 0, .any, .any, .any, .any, .any, .any, .any, .any, .any, .any, .any, .any, .any, .any, .any, .any, .any, .any, .v (.slice A N C), .v (.int .i64 N), .v (.int .i64 k), .any, .any, .any, .any, .any, .any, .any, .any])) (fun k => N - k) 0 (Nat.zero_le _) ⟨by repeat' first | exact trivial | refine ⟨.inl rfl, ?_⟩ | refine ⟨.inr rfl, ?_⟩, ⟨by repeat' first | exact trivial | refine ⟨.inl rfl, ?_⟩ | refine ⟨.inr rfl, ?_⟩, by repeat' first | exact trivial | refine ⟨.inl rfl, ?_⟩ | refine ⟨.inr rfl, ?_⟩, fun _ h => h⟩, rfl⟩ ?_
  intro k hk
  refine wp_br (fun h1 => ?_) (fun h1 => ?_)
  ·have hlt : k < N := by simp at h1; omega
   have hx : ps[k]? = some ps[k] := List.getElem?_eq_getElem (by omega)
   have hm := List.mem_of_getElem? hx
   have hq := hps ps[k] hm
   generalize ps[k] = q at hx hq hm
   obtain ⟨ad, rfl⟩ := Option.isSome_iff_exists.1 (hS.some hlt)
   refine wp_must ⟨by omega, by omega, rfl⟩ ?_
   refine readC (xs := ps.map Pt.v) (j := k) q.v rfl List.mem_cons_self (by rw [List.getElem?_map, hx]; rfl) (by show ad.add (k * 1) = ad.add k; rw [Nat.mul_one]) ?_
   have hc1 : cellsL (flat (ps.take (k + 1))) = cellsL (flat (ps.take k)) ++ cellsL q.l := by rw [flat_take ps k q hx, cellsL_append]
   have hl1 := congrArg List.length (flat_take ps k q hx)
   rw [List.length_append, ← hq.2.1] at hl1
   have hb1 := hle (k + 1)
   refine ⟨cellsL q.l, by rw [cellsL_length, hq.2.1], cellsL_one q.l, fun β ρ w' hM' ad' had j u hu => ?_, ?_⟩
   ·have hmem : rowF (pt q.a q.n) (cellsL q.l) ∈ (rowF (some ad) (ps.map Pt.v) :: ps.map (fun q => rowF (pt q.a q.n) (cellsL q.l))) := List.mem_cons_of_mem _ (List.mem_map.2 ⟨q, hm, rfl⟩)
    rw [had, pt_pos (k := 0) (by have := cellsL_pos hu; have := hq.2.1; omega)] at hmem
    exact (hM'.at_ hmem).cell hu
   ·refine wp_must ⟨by show (flat (ps.take k)).length + q.n ≤ maxLen; unfold maxLen; omega, by show ((flat (ps.take k)).length + q.n) * 56 ≤ 140737488355328; omega, fun ha => hq.1.2.2 ha⟩ ?_
    refine wp_must ⟨by omega, by omega⟩ ?_
    refine wp_end ⟨k + 1, hlt, ⟨by repeat' first | exact trivial | refine ⟨.inl rfl, ?_⟩ | refine ⟨.inr rfl, ?_⟩, ⟨by repeat' first | exact trivial | refine ⟨.inl rfl, ?_⟩ | refine ⟨.inr rfl, ?_⟩, by rw [hc1, hl1]; repeat' first | exact trivial | refine ⟨.inl rfl, ?_⟩ | refine ⟨.inr rfl, ?_⟩, fun _ h => h⟩, rfl⟩, by show N - (k + 1) < N - k; omega⟩
  ·have hkN : k = N := by simp at h1; omega
   have e1 : ps.take k = ps := List.take_of_length_le (by omega)
   refine wp_end (fun β ρ w' v hM' hv => ⟨v, rfl, hM'.below, ?_⟩)
   have := hM'.mine (i := 0) (r := ⟨31, 6, (flat (ps.take k)).length, cellsL (flat (ps.take k))⟩) rfl hv
   rw [e1] at this
   exact this
end Go.Proofs.YtofpmnkkimgkfaaGreatDoor.queue
