/- Layer 5 (queue): Ready, Drop, and Advance where there is no such account. -/
import Derived.Test.YtofpmnkkimgkfaaGreatDoorKQueueC
set_option linter.all false
set_option maxHeartbeats 4000000
set_option maxRecDepth 100000
namespace Go.Proofs.YtofpmnkkimgkfaaGreatDoor.queue
open Go.RowKit Sx txn
theorem meetM {P : Program} {W : World} {G : Option Nat} {Q : Ending → World → Prop} {f : FuncId} {args : List T} {e : TypeId} {size : Nat} {m : M} {k : Nat → List Value → Tree} {l : List Value} (n : Nat) (ys : List Value) (hv : valsOf args = some l) (hc : callable P f = true)
  (hC : ∀ β ρ w, Mem W G m β ρ w → Calls P f (List.toArray l) w fun e' w' => ∃ v, e' = .returned v ∧ Below w.heap.size w w' ∧ w'.ownsRow w.heap.size e size v n ys) (h : (k n ys).wp P W G Q) : (Tree.make f args e size m k).wp P W G Q :=
 ⟨hc, fun β ρ w vs hm hr => by
  rw [valsOf_spec _ _ _ hv hr]
  exact (hC β ρ w hm).mono fun e' w' ⟨v, h1, h2, h3⟩ => ⟨v, n, ys, h1, h2, h3, h⟩⟩
theorem meetc {P : Program} {W : World} {G : Option Nat} {Q : Ending → World → Prop} {f : FuncId} {args : List T} {l : List Value} {m : M} {k : Value → List Fact → Tree} {v : Value} (hv : valsOf args = some l) (hc : callable P f = true)
  (hC : ∀ β ρ w, Mem W G m β ρ w → Calls P f (List.toArray l) w fun e w' => e = .returned v ∧ Below w.heap.size w w') (h : (k v []).wp P W G Q) : (Tree.call f args m k).wp P W G Q :=
 meet v hc (fun β ρ w vs hm hr => by rw [valsOf_spec _ _ _ hv hr]; exact hC β ρ w hm) h
abbrev One := Option Addr × Nat
theorem advance_no (s b : Int) (l : List Tx) (a : Option Addr) (n c : Nat) (y : Int) (w : World) (hs : Sl a n c) (hn : n = l.length) (hrow : At w (pt a n) (cellsL l)) (hl : l.length ≤ 1000000) (he : advV b y ≠ 0) :
  Calls Tryz.prog 137 (List.toArray [acc s b a n c, .int .i64 y]) w fun e w' => ∃ i : One, Sl i.1 n i.2 ∧ Gives w w' e (.tuple #[acc s b i.1 n i.2, .slice none 0 0, .int .i64 (advV b y)]) [rowF (pt i.1 n) (cellsL l)] := by
 have hadv := fun w => advances b y w
 generalize advV b y = er at *
 refine calls_of_exec env_ok Tryz.func137 rfl [] (by kernel_rfl) [rowF (pt a n) (cellsL l)] (at1 hrow) ?_
 conv=>arg 5;whnf
 refine meetc rfl (by kernel_rfl) (fun β ρ w' hM' => hadv w') ?_
 conv=>arg 5;whnf
 refine wp_br (fun h => ?_) (fun h => absurd h (by simpa using he))
 conv=>arg 5;whnf
 refine meetM n (cellsL l) rfl (by kernel_rfl) (fun β ρ w' hM' => clone l a n c w' hs hn (hM'.at_ (List.mem_cons_self)) hl) ?_
 conv=>arg 5;whnf
 refine wp_share fun a1 c1 hs1 hf1 => ?_
 conv=>arg 5;whnf
 refine wp_back fun β ρ w' hM' => ⟨(a1, c1), hs1, rfl, hM'.below, ?_⟩
 intro φ hφ
 simp only [List.mem_cons, List.not_mem_nil, or_false] at hφ
 subst hφ
 exact giveF _ hM' List.mem_cons_self hf1
def gap (b : Int) (k : Nat) (v : Int) : Bool := bif decide (v < b) then true else (IntKind.i64.wrap (v - b) != (k : Int))
def readyV (b : Int) (l : List Tx) : List Tx := l.take (srch (gap b) l 0)
theorem ready1 (k : Nat) (v s b : Int) (x : Value) (q : Addr) (w : World) (hq : At w (some q) [.int .i64 s, .int .i64 b, x]) : Calls Tryz.prog 226 (List.toArray [.int .i64 k, .int .i64 v, .pointer (some q)]) w fun e w' => e = .returned (.bool (gap b k v)) ∧ Below w.heap.size w w' := by
 refine calls_of_exec env_ok.turn Tryz.func226 rfl [] (by kernel_rfl) [rowF (some q) [.int .i64 s, .int .i64 b, x]] (at1 hq) ?_
 conv=>arg 5;whnf
 refine readC (.int .i64 b) rfl (List.mem_cons_self) (j := 1) rfl rfl ?_
 conv=>arg 5;whnf
 refine wp_br (fun h => ?_) (fun h => ?_)
 ·(conv => arg 5; whnf)
  refine readC (.int .i64 b) rfl (List.mem_cons_self) (j := 1) rfl rfl ?_
  conv=>arg 5;whnf
  refine wp_back fun β ρ w' hM => ⟨?_, hM.below⟩
  have : decide (v < b) = false := by simpa using h
  unfold gap
  rw [this]
  rfl
 ·(conv => arg 5; whnf)
  refine wp_back fun β ρ w' hM => ⟨?_, hM.below⟩
  have : decide (v < b) = true := by simpa using h
  unfold gap
  rw [this]
  rfl
theorem slice_to (a : Option Addr) (n c j : Nat) (w : World) (h : j ≤ c) : (do pure (Next.value (← Instr.sliceAt 32 (.slice a n c) none (some (.int .i64 j)) none)) : Sem Next).run Tryz.prog w = .ok (.value (.slice a j c)) w := by
 have h2 : (j : Int) ≤ c := by omega
 simp [Instr.sliceAt, Instr.slice, run_underlying Tryz.underlying32, Sem.run_bind, go_sem, h2]
theorem cellsL_takes (l : List Tx) (j : Nat) : cellsL (l.take j) = (cellsL l).take (j * 6) := by
 induction l generalizing j with
 | nil => simp [cellsL]
 | cons x l ih =>
  cases j with
  | zero => simp [cellsL]
  | succ j =>
   have := ih j
   simp only [cellsL] at this
   simp only [cellsL, List.take_succ_cons, List.flatMap_cons]
   rw [this, show (j + 1) * 6 = (cellsX x).length + j * 6 from by simp [cellsX]; omega, List.take_length_add_append]
theorem at_begin {w : World} {a : Option Addr} {n : Nat} {l : List Tx} (h : At w (pt a n) (cellsL l)) (j : Nat) (hj : j ≤ n) : At w (pt a j) (cellsL (l.take j)) := by
 by_cases h0 : j = 0
 ·rw [show pt a j = none from if_pos h0]
  intro g hg
  cases hg
 ·rw [show pt a n = a from if_neg (by omega)] at h
  rw [show pt a j = a from if_neg h0, cellsL_takes]
  exact at_take h _
theorem ready (s b : Int) (l : List Tx) (a : Option Addr) (n c : Nat) (w : World) (hs : Sl a n c) (hn : n = l.length) (hrow : At w (pt a n) (cellsL l)) (hl : l.length ≤ 1000000) :
  Calls Tryz.prog 221 (List.toArray [acc s b a n c]) w fun e w' => ∃ i : One, Sl i.1 (readyV b l).length i.2 ∧ Gives w w' e (.slice i.1 (readyV b l).length i.2) [rowF (pt i.1 (readyV b l).length) (cellsL (readyV b l))] := by
 have hle := srch_le (gap b) l 0
 have hlen : (readyV b l).length = srch (gap b) l 0 := by unfold readyV; rw [List.length_take]; omega
 have hrd : readyV b l = l.take (srch (gap b) l 0) := rfl
 rw [hlen]
 have hnc := hs.1
 have hn63 := hs.le
 have hsr := fun (g : FuncId) cs w' h1 h2 => search l a n c g cs (gap b) w' hs hn h1 h2
 generalize srch (gap b) l 0 = j at *
 have hjn : j ≤ n := by omega
 refine calls_of_exec env_ok Tryz.func221 rfl [] (by kernel_rfl) [rowF (pt a n) (cellsL l)] (at1 hrow) ?_
 conv=>arg 5;whnf
 refine meet (.int .i64 j) (by kernel_rfl) (fun β ρ w' vs hM hR => ?_) ?_
 ·obtain ⟨y1, y2, rfl, h1, h2⟩ := Rels.two hR
  obtain rfl := h1
  obtain ⟨g, hg, rfl⟩ := Rel.fn1 h2
  refine hsr _ [.pointer (some ⟨g, 0, none⟩)] w' (hM.at_ (List.mem_cons_self)) (by kernel_rfl) fun k v w2 hb hk => ?_
  exact ready1 k v s b _ _ w2 ((hM.box (b := 0) (l := [.int .i64 s, .int .i64 b, .slice a n c]) rfl hg).later hb)
 conv=>arg 5;whnf
 refine wp_prim (.slice a j c) (fun w => slice_to a n c j w (by omega)) ?_
 conv=>arg 5;whnf
 refine wp_share fun A C hS hF => ?_
 refine meetM j (cellsL (readyV b l)) rfl (by kernel_rfl) (fun β ρ w' hM' => ?_) ?_
 ·have h1 := concat [⟨a, j, c, l.take j⟩] A 1 C w' hS rfl (hM'.at_ (List.mem_cons_self)) (by
   intro q hq
   simp only [List.mem_singleton] at hq
   subst hq
   exact ⟨⟨by show j ≤ c; omega, hs.2.1, fun ha => ⟨by have := (hs.2.2 ha).1; show j = 0; omega, (hs.2.2 ha).2⟩⟩, by show j = (l.take j).length; rw [List.length_take]; omega, at_begin (hM'.at_ (List.mem_cons_of_mem _ List.mem_cons_self)) j hjn⟩) (by simp [flat]; omega)
  rw [show flat [(⟨a, j, c, l.take j⟩ : Pt)] = readyV b l from by rw [hrd]; simp [flat], hlen] at h1
  exact h1
 conv=>arg 5;whnf
 refine wp_share fun a1 c1 hs1 hf1 => ?_
 conv=>arg 5;whnf
 refine wp_back fun β ρ w' hM' => ⟨(a1, c1), hs1, rfl, hM'.below, ?_⟩
 intro φ hφ
 simp only [List.mem_cons, List.not_mem_nil, or_false] at hφ
 subst hφ
 exact giveF _ hM' List.mem_cons_self hf1
end Go.Proofs.YtofpmnkkimgkfaaGreatDoor.queue
