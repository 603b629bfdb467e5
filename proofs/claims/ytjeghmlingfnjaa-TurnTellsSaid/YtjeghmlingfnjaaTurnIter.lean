/- Layer 10 (turn): the iterator that goes once round all who may, by contract. -/
import Derived.RangeFuncBox
import Derived.RangeFuncLeaves
import Derived.Shelf.Abstract
import Derived.WalkKit
import Derived.OwnWalkIn
import Derived.TacticsInMore
import Derived.LoopNIn
import Derived.LoopIn
import Derived.Test.YtjeghmlingfnjaaTurnPlain
import Derived.Test.YtjeghmlingfnjaaProg
namespace Go.Proofs.Ytjeghmlingfnjaa.turn
open Go.RowKit Go.Shelf
set_option linter.unusedVariables false
set_option linter.unusedSimpArgs false
/-- Where one stands, k behind f, round. -/
def idx (f k n : Nat) : Nat := (f + k) % n
theorem idx_int (f k n : Nat) : ((f : Int) + (k : Int)) % (n : Int) = ((idx f k n : Nat) : Int) := by unfold idx; simp
attribute [local go_sem] Oper.semAt_some

/-- A row of bools lies at sv, in a block below n₀; or it has none. -/
def Row (n₀ : Nat) (W : World) (a : Option Addr) (bs : List Bool) : Prop :=
  bs = [] ∨ ∃ b off, a = some ⟨b, off, none⟩ ∧ b < n₀ ∧ ∀ j, j < bs.length → W.cell? ⟨b, off + j, none⟩ = some (.bool (on bs j))
theorem Row.below {n₀ : Nat} {A B : World} (h : Below n₀ A B) {a bs} : Row n₀ A a bs → Row n₀ B a bs
  | .inl e => .inl e
  | .inr ⟨b, off, e, hb, hc⟩ => .inr ⟨b, off, e, hb, fun j hj => (h.cell (p := ⟨b, off + j, none⟩) hb).trans (hc j hj)⟩

/-- What lay below n₀, and two boxes, lie as they lay. -/
def Keeps (n₀ Bl Bf : Nat) (A B : World) : Prop := Below n₀ A B ∧ B.heap[Bl]? = A.heap[Bl]? ∧ B.heap[Bf]? = A.heap[Bf]?
theorem Keeps.refl (n₀ Bl Bf : Nat) (A : World) : Keeps n₀ Bl Bf A A := ⟨Below.refl _ _, rfl, rfl⟩
theorem Keeps.trans {n₀ Bl Bf : Nat} {A B C : World} (h : Keeps n₀ Bl Bf A B) (k : Keeps n₀ Bl Bf B C) : Keeps n₀ Bl Bf A C := ⟨h.1.trans k.1, k.2.1.trans h.2.1, k.2.2.trans h.2.2⟩
theorem cell_of_heap {A B : World} {b o : Nat} (h : B.heap[b]? = A.heap[b]?) : B.cell? ⟨b, o, none⟩ = A.cell? ⟨b, o, none⟩ := by simp [World.cell?, h]
theorem keeps_b {n₀ Bl Bf : Nat} {w : World} (hn : n₀ ≤ w.heap.size) (hl : Bl < w.heap.size) (hf : Bf < w.heap.size) (W : World) (l : Nat) (o o' : Obj) (hle : w.heap.size ≤ l) (h : W.heap[l]? = some o) (h1 : o.isCells = false) (h2 : o.isWalk = false) : Keeps n₀ Bl Bf W (W.putObj l o') :=
  ⟨belowK_b hn W l o o' hle h h1 h2, World.putObj_heap_other (by omega), World.putObj_heap_other (by omega)⟩
set_option maxRecDepth 100000 in
set_option maxHeartbeats 4000000 in
theorem round1_in (F : Fence) (n : Nat) (h7 : F.fn 64) (hro : F.round = none) (hn : 1 ≤ n) (l Bl Bf n₀ b off cap f : Nat) (bs : List Bool) (hlen : bs.length ≤ 1000000000) (hf : f ≤ bs.length) (hb : b < n₀) (J Jx : List Nat → World → Prop)
    (hY : ∀ pre x W, J pre W → pre.length < bs.length → YieldAt F (n - 1) Try.prog l #[.int .i64 (x : Nat)] W fun e W' =>
      (e = .returned (.bool true) ∧ J (pre ++ [x]) W' ∧ Keeps n₀ Bl Bf W W') ∨ (e = .returned (.bool false) ∧ Jx (pre ++ [x]) W'))
    (W : World) (hcl : W.cell? ⟨Bl, 0, none⟩ = some (.slice (some ⟨b, off, none⟩) bs.length cap)) (hcf : W.cell? ⟨Bf, 0, none⟩ = some (.int .i64 f)) (hc : ∀ j, j < bs.length → W.cell? ⟨b, off + j, none⟩ = some (.bool (on bs j))) (h0 : J [] W) :
    CallsIn F n Try.prog 64 #[.func (.yield l) #[] #[], .pointer (some ⟨Bl, 0, none⟩), .pointer (some ⟨Bf, 0, none⟩)] W fun e W' => (∃ v, e = .returned v) ∧
      ((∃ ys, ys = sq bs f bs.length ∧ J ys W') ∨ (∃ pre, (∃ k x, k < bs.length ∧ x = (f + k) % bs.length ∧ on bs x = true ∧ pre = sq bs f k ++ [x]) ∧ Jx pre W')) := by
  refine callsIn_of_wp Try.func64 rfl h7 ?_ hro
  simp only [Try.ntmps64, List.size_toArray, List.length_cons, List.length_nil, Nat.reduceAdd, Nat.reduceSub, Array.replicate_succ, Array.replicate_zero, List.push_toArray, List.append_toArray, List.nil_append, List.cons_append]
  gi_wp2
  gi_loopw [8] (fun i wr => ∃ k : Nat, k ≤ bs.length ∧ i = .int .i64 k ∧ J (sq bs f k) wr ∧ Keeps n₀ Bl Bf W wr)
    (fun i _ => bs.length - (intOf i).toNat)
  case atStart => exact ⟨0, Nat.zero_le _, rfl, h0, Keeps.refl _ _ _ _⟩
  case round =>
    obtain ⟨k, hk, rfl, hJs, hnx⟩ := hrel
    have hcl' : wr.cell? ⟨Bl, 0, none⟩ = some (.slice (some ⟨b, off, none⟩) bs.length cap) := (cell_of_heap hnx.2.1).trans hcl
    have hcf' : wr.cell? ⟨Bf, 0, none⟩ = some (.int .i64 f) := (cell_of_heap hnx.2.2).trans hcf
    by_cases hlt : k < bs.length
    · have hmod : (f + k) % bs.length < bs.length := Nat.mod_lt _ (by omega)
      have hsum : wrap64 ((f : Int) + (k : Int)) = (f : Int) + (k : Int) := by unfold wrap64; omega
      have hcx : wr.cell? ⟨b, off + (f + k) % bs.length, none⟩ = some (.bool (on bs ((f + k) % bs.length))) := (hnx.1.cell (p := ⟨b, off + (f + k) % bs.length, none⟩) hb).trans (hc _ hmod)
      have hpre : (sq bs f k).length < bs.length := by
        have := List.length_filter_le (on bs) ((List.range k).map fun s => (f + s) % bs.length)
        simp at this
        unfold sq
        omega
      have hsq := sq_succ bs f k
      have hxe : idx f k bs.length = (f + k) % bs.length := rfl
      rw [← hxe] at hmod hcx hsq
      clear hxe
      cases hon : on bs (idx f k bs.length) with
      | true =>
        rw [hon] at hcx
        rw [if_pos hon] at hsq
        obtain ⟨fn, tmps, assign, body, hy, hR⟩ := hY _ (idx f k bs.length) wr hJs hpre
        gi_wp2_with (rw [idx_int])
        refine hR.mono ?_
        rintro e W3 (⟨rfl, hJ3, hk3⟩ | ⟨rfl, hJx3⟩)
        · gi_wp2
          go_roundw
          case rel => exact ⟨k + 1, by omega, by simp, by rw [hsq]; exact hJ3, hnx.trans hk3⟩
          case measure => simp [intOf]; omega
        · gi_wp2
          refine bodyPost_ret (results_none rfl _ _ _) rfl ?_
          exact ⟨⟨_, rfl⟩, .inr ⟨_, ⟨k, idx f k bs.length, hlt, rfl, hon, rfl⟩, hJx3⟩⟩
      | false =>
        rw [hon] at hcx
        rw [if_neg (by rw [hon]; simp)] at hsq
        gi_wp2_with (rw [idx_int])
        refine ⟨fun _ h => (by cases h), ?_⟩
        gi_wp2
        go_roundw
        case rel => exact ⟨k + 1, by omega, by simp, by rw [hsq]; exact hJs, hnx⟩
        case measure => simp [intOf]; omega
    · obtain rfl : k = bs.length := by omega
      gi_wp2
      go_end0
      exact ⟨⟨_, rfl⟩, .inl ⟨_, rfl, hJs⟩⟩

set_option maxRecDepth 100000 in
set_option maxHeartbeats 4000000 in
theorem round1_nil_in (F : Fence) (n : Nat) (h7 : F.fn 64) (hro : F.round = none) (l Bl Bf : Nat) (a : Option Addr) (cap : Nat) (J : List Nat → World → Prop) (W : World) (hcl : W.cell? ⟨Bl, 0, none⟩ = some (.slice a 0 cap)) (h0 : J [] W) :
    CallsIn F n Try.prog 64 #[.func (.yield l) #[] #[], .pointer (some ⟨Bl, 0, none⟩), .pointer (some ⟨Bf, 0, none⟩)] W fun e W' => (∃ v, e = .returned v) ∧ J [] W' := by
  refine callsIn_of_wp Try.func64 rfl h7 ?_ hro
  simp only [Try.ntmps64, List.size_toArray, List.length_cons, List.length_nil, Nat.reduceAdd, Nat.reduceSub, Array.replicate_succ, Array.replicate_zero, List.push_toArray, List.append_toArray, List.nil_append, List.cons_append]
  gi_wp2
  gi_loopw [8] (fun i wr => i = .int .i64 0 ∧ J [] wr) (fun _ _ => 0)
  case atStart => exact ⟨rfl, h0⟩
  case round =>
    obtain ⟨rfl, hJs⟩ := hrel
    gi_wp2
    go_end0
    exact ⟨⟨_, rfl⟩, hJs⟩

set_option maxRecDepth 100000 in
set_option maxHeartbeats 4000000 in
theorem round_in (F : Fence) (n : Nat) (h7 : F.fn 63) (hro : F.round = none) (a : Option Addr) (bs : List Bool) (cap : Nat) (last : Int) (hlen : bs.length ≤ 1000000000) (w : World) :
    CallsIn F n Try.prog 63 #[.slice a bs.length cap, .int .i64 last] w fun e w' => e = .returned (.func (.func 64) #[] #[.pointer (some ⟨w.heap.size, 0, none⟩), .pointer (some ⟨w.heap.size + 1, 0, none⟩)]) ∧ Below w.heap.size w w' ∧ w'.heap.size = w.heap.size + 2 ∧ w'.cell? ⟨w.heap.size, 0, none⟩ = some (.slice a bs.length cap) ∧ w'.cell? ⟨w.heap.size + 1, 0, none⟩ = some (.int .i64 (frm bs last : Nat)) := by
  refine callsIn_of_wp Try.func63 rfl h7 ?_ hro
  simp only [Try.ntmps63, List.size_toArray, List.length_cons, List.length_nil, Nat.reduceAdd, Nat.reduceSub, Array.replicate_succ, Array.replicate_zero, List.push_toArray, List.append_toArray, List.nil_append, List.cons_append]
  have hfin : ∀ z : Int, Below w.heap.size w ((w.alloc (.cells #[.slice a bs.length cap] 72)).alloc (.cells #[.int .i64 z] 3)) ∧ ((w.alloc (.cells #[.slice a bs.length cap] 72)).alloc (.cells #[.int .i64 z] 3)).heap.size = w.heap.size + 2 ∧ ((w.alloc (.cells #[.slice a bs.length cap] 72)).alloc (.cells #[.int .i64 z] 3)).cell? ⟨w.heap.size, 0, none⟩ = some (.slice a bs.length cap) ∧ ((w.alloc (.cells #[.slice a bs.length cap] 72)).alloc (.cells #[.int .i64 z] 3)).cell? ⟨w.heap.size + 1, 0, none⟩ = some (.int .i64 z) := fun z => by
    have bL := Boxed.new w 72 (.slice a bs.length cap)
    have bF := Boxed.new (w.alloc (.cells #[.slice a bs.length cap] 72)) 3 (.int .i64 z)
    rw [World.size_alloc] at bF
    exact ⟨((Below.refl _ w).alloc (Nat.le_refl _) _).alloc (by simp) _, by simp, (bL.alloc _).cell, bF.cell⟩
  by_cases h0 : 0 ≤ last
  · by_cases h1 : last < bs.length
    · have hfr : ((frm bs last : Nat) : Int) = last + 1 := by unfold frm; rw [if_pos ⟨h0, h1⟩]; omega
      have hw64 : wrap64 (last + 1) = last + 1 := by unfold wrap64; omega
      rw [hfr]
      gi_wp2
      go_ret
      exact ⟨rfl, hfin _⟩
    · have hfr : ((frm bs last : Nat) : Int) = 0 := by unfold frm; rw [if_neg (by omega)]; rfl
      rw [hfr]
      gi_wp2
      go_ret
      exact ⟨rfl, hfin _⟩
  · have hfr : ((frm bs last : Nat) : Int) = 0 := by unfold frm; rw [if_neg (by omega)]; rfl
    rw [hfr]
    gi_wp2
    go_ret
    exact ⟨rfl, hfin _⟩
/-- Those who may, in the order of a round: all, or the first ones. -/
theorem round_stops (F : Fence) (n : Nat) (h7 : F.fn 64) (hro : F.round = none) (hn : 1 ≤ n) (Bl Bf n₀ cap f : Nat) (a : Option Addr) (bs : List Bool) (hlen : bs.length ≤ 1000000000) (hf : f ≤ bs.length) (w : World) (hBl : Bl < w.heap.size) (hBf : Bf < w.heap.size) (hn₀ : n₀ ≤ w.heap.size) (hcl : w.cell? ⟨Bl, 0, none⟩ = some (.slice a bs.length cap)) (hcf : w.cell? ⟨Bf, 0, none⟩ = some (.int .i64 f)) (hI : Row n₀ w a bs) :
    SeqStopsK F n Try.prog 64 #[.pointer (some ⟨Bl, 0, none⟩), .pointer (some ⟨Bf, 0, none⟩)] (fun x : Nat => #[Value.int .i64 (x : Int)]) (Keeps n₀ Bl Bf) (fun ys => ys = ord bs f) (fun pre => ∃ k x, k < bs.length ∧ x = (f + k) % bs.length ∧ on bs x = true ∧ pre = sq bs f k ++ [x]) bs.length w := fun l J Jx W hW _ _ hY h0 => by
  have hcl' := (hW.cell (p := ⟨Bl, 0, none⟩) hBl).trans hcl
  have hcf' := (hW.cell (p := ⟨Bf, 0, none⟩) hBf).trans hcf
  rcases hI.below (hW.mono hn₀) with rfl | ⟨b, off, rfl, hb, hcs⟩
  · refine (round1_nil_in F n h7 hro l Bl Bf a cap J W hcl' h0).mono fun e W' ⟨he, hj⟩ => ⟨he, .inl ⟨[], ?_, hj⟩⟩
    have := sq_all [] f hf
    rw [← this]
    rfl
  · refine (round1_in F n h7 hro hn l Bl Bf n₀ b off cap f bs hlen hf hb J Jx hY W hcl' hcf' hcs h0).mono ?_
    rintro e W' ⟨he, ⟨ys, rfl, hj⟩ | ⟨pre, hp, hj⟩⟩
    · exact ⟨he, .inl ⟨_, sq_all bs f hf, hj⟩⟩
    · exact ⟨he, .inr ⟨_, hp, hj⟩⟩
end Go.Proofs.Ytjeghmlingfnjaa.turn
