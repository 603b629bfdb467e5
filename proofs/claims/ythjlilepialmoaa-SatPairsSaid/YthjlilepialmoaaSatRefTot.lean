/- The document's own Totals (hopperref01). -/
import Derived.Test.YthjlilepialmoaaSatRef
import Derived.RegionTactic
import Derived.ChangeAlike
import Derived.Laws.Rows
namespace Go.Proofs.Ythjlilepialmoaa.sat
open Go.RowKit Go.ChangeShapes Go.WideShapes
set_option linter.unusedVariables false

set_option maxHeartbeats 1000000 in
theorem rtotals_yes (b off len cap : Nat) (X Y : Nat → Int) (w : World) (hl : len ≤ 1000)
    (hc : ∀ i, i < len → w.cell? ⟨b, off + i * 2, none⟩ = some (.int .i64 (X i)) ∧ w.cell? ⟨b, off + i * 2 + 1, none⟩ = some (.int .i64 (Y i)))
    (hx : ∀ i, i < len → 0 ≤ X i ∧ X i ≤ 1099511627776) (hy : ∀ i, i < len → 0 ≤ Y i ∧ Y i ≤ 1099511627776) :
    Calls Try.prog 25 #[.slice (some ⟨b, off, none⟩) len cap] w fun e w' => e = .returned (.tuple #[.agg #[.int .i64 (sm X len), .int .i64 (sm Y len)], .bool true]) ∧ Below w.heap.size w w' := by
  go_enter Try.func25, Try.ntmps25
  go_wp2_with fail
  go_loopw [5] (fun i wr => ∃ k : Nat, k ≤ len ∧ i = .int .i64 k ∧ wr.heap[w.heap.size]? = some (.cells #[.int .i64 0, .int .i64 0] 29 (0, 0)) ∧ wr.heap[w.heap.size + 1]? = some (.cells #[.int .i64 (sm X k), .int .i64 (sm Y k)] 29 (0, 0)) ∧ Below w.heap.size w wr) (fun i _ => len - (intOf i).toNat)
  case atStart =>
    refine ⟨0, Nat.zero_le _, rfl, ?_, ?_, ((Below.refl _ _).alloc (Nat.le_refl _) _).alloc (by simp) _⟩
    · show ((w.heap.push _).push _)[w.heap.size]? = _
      rw [Array.getElem?_push, if_neg (by simp)]
      simp
    · show ((w.heap.push _).push _)[w.heap.size + 1]? = _
      rw [Array.getElem?_push, if_pos (by simp)]
      rfl
  case round =>
    obtain ⟨k, hk, rfl, hblk, hblk1, hbel⟩ := hrel
    by_cases hlt : k < len
    · obtain ⟨c0, c1⟩ := hc k hlt
      have x0 := hx k hlt
      have y0 := hy k hlt
      have bx := sm_bd X len hx k hk
      have bY := sm_bd Y len hy k hk
      have hb0 : b < w.heap.size := World.block_lt_of_cell? w _ c0
      have d0 : wr.cell? ⟨b, off + k * 2, none⟩ = some (.int .i64 (X k)) := by rw [hbel.cell hb0]; exact c0
      have d1 : wr.cell? ⟨b, off + k * 2 + 1, none⟩ = some (.int .i64 (Y k)) := by rw [hbel.cell hb0]; exact c1
      have o0 : wr.cell? ⟨w.heap.size + 1, 0, none⟩ = some (.int .i64 (sm X k)) := by simp [World.cell?, hblk1]
      have o1 : wr.cell? ⟨w.heap.size + 1, 1, none⟩ = some (.int .i64 (sm Y k)) := by simp [World.cell?, hblk1]
      have f0 : wr.frozen? ⟨w.heap.size + 1, 0, none⟩ = false := by simp [World.frozen?, hblk1]
      have f1 : wr.frozen? ⟨w.heap.size + 1, 1, none⟩ = false := by simp [World.frozen?, hblk1]
      have hne0 : b ≠ w.heap.size + 1 := by omega
      have B0 := Lib.hid hblk
      have B1 := Lib.hid hblk1
      clear hc hx hy c0 c1 hblk hblk1
      go_wp2_with fail
      refine wp_loop_rounds 3 ?_
      rw [rounds_succ]
      go_wp2_with fail
      rw [rounds_succ]
      go_wp2_with fail
      rw [rounds_succ]
      go_wp2_with fail
      go_region
      go_wp2_with fail
      go_roundw
      case rel =>
        refine ⟨k + 1, by omega, by go_num, ?_, ?_, ?_⟩
        · have h := B0.out
          show (((wr.setCell _ _).setCell _ _).heap)[w.heap.size]? = _
          rw [Below.heap_setCell _ _ _ _ (by simp), Below.heap_setCell _ _ _ _ (by simp)]
          exact h
        · have h := B1.out
          show (((wr.setCell _ _).setCell _ _).heap)[w.heap.size + 1]? = _
          have h1 := heap_setCell_same wr (w.heap.size + 1) 0 _ _ (.int .i64 (sm X k + X k)) h
          exact heap_setCell_same _ (w.heap.size + 1) 1 _ _ (.int .i64 (sm Y k + Y k)) h1
        · exact ((hbel.setCell (by simp) _).setCell (by simp) _).drew
      case measure => simp [intOf]; omega
    · have hkl : k = len := by omega
      subst hkl
      have o0 : wr.cell? ⟨w.heap.size + 1, 0, none⟩ = some (.int .i64 (sm X k)) := by simp [World.cell?, hblk1]
      have o1 : wr.cell? ⟨w.heap.size + 1, 1, none⟩ = some (.int .i64 (sm Y k)) := by simp [World.cell?, hblk1]
      have g0 : wr.cell? ⟨w.heap.size, 0, none⟩ = some (.int .i64 0) := by simp [World.cell?, hblk]
      have g1 : wr.cell? ⟨w.heap.size, 1, none⟩ = some (.int .i64 0) := by simp [World.cell?, hblk]
      have f0 : wr.frozen? ⟨w.heap.size, 0, none⟩ = false := by simp [World.frozen?, hblk]
      have f1 : wr.frozen? ⟨w.heap.size, 1, none⟩ = false := by simp [World.frozen?, hblk]
      clear hc hx hy
      go_wp2_with fail
      refine bodyPost_ret (v := .tuple #[.agg #[.int .i64 (sm X k), .int .i64 (sm Y k)], .bool true]) (by simp [results, Try.results25, go_sem, g0, g1]) rfl ⟨rfl, ?_⟩
      exact (hbel.setCell (Nat.le_refl _) _).setCell (Nat.le_refl _) _

theorem rtotals_nil (a : Option Addr) (cap : Nat) (w : World) :
    Calls Try.prog 25 #[.slice a 0 cap] w fun e w' => e = .returned (.tuple #[.agg #[.int .i64 0, .int .i64 0], .bool true]) ∧ Below w.heap.size w w' := by
  go_enter Try.func25, Try.ntmps25
  go_wp2_with fail
  refine wp_loop_rounds 1 ?_
  rw [rounds_succ]
  go_wp2_with fail
  refine bodyPost_ret (v := .tuple #[.agg #[.int .i64 0, .int .i64 0], .bool true]) (by simp [results, Try.results25, go_sem]) rfl ⟨rfl, ?_⟩
  exact ((Below.refl _ _).alloc (Nat.le_refl _) _).alloc (by simp) _

set_option maxHeartbeats 1000000 in
theorem rtotals_long (b off len cap : Nat) (x : Int) (w : World) (hl : 1000 < len) (hm : len ≤ maxLen) (c0 : w.cell? ⟨b, off, none⟩ = some (.int .i64 x)) :
    Calls Try.prog 25 #[.slice (some ⟨b, off, none⟩) len cap] w fun e w' => e = .returned (.tuple #[.agg #[.int .i64 0, .int .i64 0], .bool false]) ∧ Below w.heap.size w w' := by
  unfold maxLen at hm
  have hb0 : b < w.heap.size := World.block_lt_of_cell? w _ c0
  have h : x < 0 ∨ (0 ≤ x ∧ 1099511627776 < x) ∨ (0 ≤ x ∧ x ≤ 1099511627776) := by omega
  have d0 : ((w.alloc (.cells #[.int .i64 0, .int .i64 0] 29 (0, 0))).alloc (.cells #[.int .i64 0, .int .i64 0] 29 (0, 0))).cell? ⟨b, off, none⟩ = some (.int .i64 x) := by
    rw [World.cell?_alloc_lt _ _ _ (by simp; omega), World.cell?_alloc_lt _ _ _ hb0]
    exact c0
  rcases h with h | ⟨h, h'⟩ | ⟨h, h'⟩
  all_goals
    go_enter Try.func25, Try.ntmps25
    go_wp2_with fail
    refine wp_loop_rounds 1 ?_
    rw [rounds_succ]
    go_wp2_with fail
    refine wp_loop_rounds 1 ?_
    rw [rounds_succ]
    go_wp2_with fail
    refine bodyPost_ret (v := .tuple #[.agg #[.int .i64 0, .int .i64 0], .bool false]) (by simp [results, Try.results25, go_sem]) rfl ⟨rfl, ?_⟩
    exact ((Below.refl _ _).alloc (Nat.le_refl _) _).alloc (by simp) _

set_option maxHeartbeats 1000000 in
theorem rtotals_bad (b off len cap j : Nat) (X Y : Nat → Int) (w : World) (hl : len ≤ 1000) (hj : j < len)
    (hc : ∀ i, i < len → w.cell? ⟨b, off + i * 2, none⟩ = some (.int .i64 (X i)) ∧ w.cell? ⟨b, off + i * 2 + 1, none⟩ = some (.int .i64 (Y i)))
    (hx : ∀ i, i < j → 0 ≤ X i ∧ X i ≤ 1099511627776) (hy : ∀ i, i < j → 0 ≤ Y i ∧ Y i ≤ 1099511627776)
    (hbad : (X j < 0 ∨ 1099511627776 < X j) ∨ (Y j < 0 ∨ 1099511627776 < Y j)) :
    Calls Try.prog 25 #[.slice (some ⟨b, off, none⟩) len cap] w fun e w' => e = .returned (.tuple #[.agg #[.int .i64 0, .int .i64 0], .bool false]) ∧ Below w.heap.size w w' := by
  go_enter Try.func25, Try.ntmps25
  go_wp2_with fail
  go_loopw [5] (fun i wr => ∃ k : Nat, k ≤ j ∧ i = .int .i64 k ∧ wr.heap[w.heap.size]? = some (.cells #[.int .i64 0, .int .i64 0] 29 (0, 0)) ∧ wr.heap[w.heap.size + 1]? = some (.cells #[.int .i64 (sm X k), .int .i64 (sm Y k)] 29 (0, 0)) ∧ Below w.heap.size w wr) (fun i _ => len - (intOf i).toNat)
  case atStart =>
    refine ⟨0, Nat.zero_le _, rfl, ?_, ?_, ((Below.refl _ _).alloc (Nat.le_refl _) _).alloc (by simp) _⟩
    · show ((w.heap.push _).push _)[w.heap.size]? = _
      rw [Array.getElem?_push, if_neg (by simp)]
      simp
    · show ((w.heap.push _).push _)[w.heap.size + 1]? = _
      rw [Array.getElem?_push, if_pos (by simp)]
      rfl
  case round =>
    obtain ⟨k, hk, rfl, hblk, hblk1, hbel⟩ := hrel
    have hkl : k < len := by omega
    obtain ⟨c0, c1⟩ := hc k hkl
    have hb0 : b < w.heap.size := World.block_lt_of_cell? w _ c0
    have d0 : wr.cell? ⟨b, off + k * 2, none⟩ = some (.int .i64 (X k)) := by rw [hbel.cell hb0]; exact c0
    have d1 : wr.cell? ⟨b, off + k * 2 + 1, none⟩ = some (.int .i64 (Y k)) := by rw [hbel.cell hb0]; exact c1
    by_cases hlt : k < j
    · have x0 := hx k hlt
      have y0 := hy k hlt
      have bx := sm_bd X j hx k hk
      have bY := sm_bd Y j hy k hk
      have o0 : wr.cell? ⟨w.heap.size + 1, 0, none⟩ = some (.int .i64 (sm X k)) := by simp [World.cell?, hblk1]
      have o1 : wr.cell? ⟨w.heap.size + 1, 1, none⟩ = some (.int .i64 (sm Y k)) := by simp [World.cell?, hblk1]
      have f0 : wr.frozen? ⟨w.heap.size + 1, 0, none⟩ = false := by simp [World.frozen?, hblk1]
      have f1 : wr.frozen? ⟨w.heap.size + 1, 1, none⟩ = false := by simp [World.frozen?, hblk1]
      have hne0 : b ≠ w.heap.size + 1 := by omega
      have B0 := Lib.hid hblk
      have B1 := Lib.hid hblk1
      clear hc hx hy c0 c1 hblk hblk1 hbad
      go_wp2_with fail
      refine wp_loop_rounds 3 ?_
      rw [rounds_succ]
      go_wp2_with fail
      rw [rounds_succ]
      go_wp2_with fail
      rw [rounds_succ]
      go_wp2_with fail
      go_region
      go_wp2_with fail
      go_roundw
      case rel =>
        refine ⟨k + 1, by omega, by go_num, ?_, ?_, ?_⟩
        · have h := B0.out
          show (((wr.setCell _ _).setCell _ _).heap)[w.heap.size]? = _
          rw [Below.heap_setCell _ _ _ _ (by simp), Below.heap_setCell _ _ _ _ (by simp)]
          exact h
        · have h := B1.out
          show (((wr.setCell _ _).setCell _ _).heap)[w.heap.size + 1]? = _
          have h1 := heap_setCell_same wr (w.heap.size + 1) 0 _ _ (.int .i64 (sm X k + X k)) h
          exact heap_setCell_same _ (w.heap.size + 1) 1 _ _ (.int .i64 (sm Y k + Y k)) h1
        · exact ((hbel.setCell (by simp) _).setCell (by simp) _).drew
      case measure => simp [intOf]; omega
    · have hkj : k = j := by omega
      subst hkj
      have g0 : wr.cell? ⟨w.heap.size, 0, none⟩ = some (.int .i64 0) := by simp [World.cell?, hblk]
      have g1 : wr.cell? ⟨w.heap.size, 1, none⟩ = some (.int .i64 0) := by simp [World.cell?, hblk]
      have f0 : wr.frozen? ⟨w.heap.size, 0, none⟩ = false := by simp [World.frozen?, hblk]
      have f1 : wr.frozen? ⟨w.heap.size, 1, none⟩ = false := by simp [World.frozen?, hblk]
      clear hc hx hy c0 c1 hblk hblk1
      by_cases bx : X k < 0 ∨ 1099511627776 < X k
      · clear hbad
        have bx' : X k < 0 ∨ (0 ≤ X k ∧ 1099511627776 < X k) := by omega
        clear bx
        rcases bx' with h | ⟨h, h'⟩
        all_goals
          go_wp2_with fail
          refine wp_loop_rounds 1 ?_
          rw [rounds_succ]
          go_wp2_with fail
          refine bodyPost_ret (v := .tuple #[.agg #[.int .i64 0, .int .i64 0], .bool false]) (by simp [results, Try.results25, go_sem, g0, g1]) rfl ⟨rfl, ?_⟩
          exact (hbel.setCell (Nat.le_refl _) _).setCell (Nat.le_refl _) _
      · have by1 := hbad.resolve_left bx
        have x0 : 0 ≤ X k ∧ X k ≤ 1099511627776 := by omega
        clear bx hbad
        have by1' : Y k < 0 ∨ (0 ≤ Y k ∧ 1099511627776 < Y k) := by omega
        clear by1
        rcases by1' with h | ⟨h, h'⟩
        all_goals
          go_wp2_with fail
          refine wp_loop_rounds 2 ?_
          rw [rounds_succ]
          go_wp2_with fail
          rw [rounds_succ]
          go_wp2_with fail
          refine bodyPost_ret (v := .tuple #[.agg #[.int .i64 0, .int .i64 0], .bool false]) (by simp [results, Try.results25, go_sem, g0, g1]) rfl ⟨rfl, ?_⟩
          exact (hbel.setCell (Nat.le_refl _) _).setCell (Nat.le_refl _) _

/-! In one form, for all pairs. -/
def TotOk (len : Nat) (X Y : Nat → Int) : Prop := len ≤ 1000 ∧ ∀ i, i < len → (0 ≤ X i ∧ X i ≤ 1099511627776) ∧ (0 ≤ Y i ∧ Y i ≤ 1099511627776)

instance (len : Nat) (X Y : Nat → Int) : Decidable (TotOk len X Y) := by unfold TotOk; exact inferInstance

def totX (len : Nat) (X Y : Nat → Int) : Int := if TotOk len X Y then sm X len else 0
def totY (len : Nat) (X Y : Nat → Int) : Int := if TotOk len X Y then sm Y len else 0
def totB (len : Nat) (X Y : Nat → Int) : Bool := decide (TotOk len X Y)

/-- A part of a slice of pairs. -/
def Row (w : World) (a : Option Addr) (len : Nat) (X Y : Nat → Int) : Prop :=
  len ≤ maxLen ∧ (len = 0 ∨ ∃ b off, a = some ⟨b, off, none⟩ ∧ ∀ i, i < len → w.cell? ⟨b, off + i * 2, none⟩ = some (.int .i64 (X i)) ∧ w.cell? ⟨b, off + i * 2 + 1, none⟩ = some (.int .i64 (Y i)))

theorem bad_of {len : Nat} {X Y : Nat → Int} (hl : len ≤ 1000) (h : ¬ TotOk len X Y) :
    ∃ j, j < len ∧ ((X j < 0 ∨ 1099511627776 < X j) ∨ (Y j < 0 ∨ 1099511627776 < Y j)) ∧ (∀ i, i < j → 0 ≤ X i ∧ X i ≤ 1099511627776) ∧ ∀ i, i < j → 0 ≤ Y i ∧ Y i ≤ 1099511627776 := by
  obtain ⟨j, h1, h2, h3⟩ := first_bad (fun i => (0 ≤ X i ∧ X i ≤ 1099511627776) ∧ (0 ≤ Y i ∧ Y i ≤ 1099511627776)) len (fun hh => h ⟨hl, hh⟩)
  exact ⟨j, h1, by omega, fun i hi => (h3 i hi).1, fun i hi => (h3 i hi).2⟩

theorem tot_yes {len : Nat} {X Y : Nat → Int} (h : TotOk len X Y) : totX len X Y = sm X len ∧ totY len X Y = sm Y len ∧ totB len X Y = true := ⟨if_pos h, if_pos h, decide_eq_true h⟩
theorem tot_no {len : Nat} {X Y : Nat → Int} (h : ¬ TotOk len X Y) : totX len X Y = 0 ∧ totY len X Y = 0 ∧ totB len X Y = false := ⟨if_neg h, if_neg h, decide_eq_false h⟩

theorem totals_any (a : Option Addr) (len cap : Nat) (X Y : Nat → Int) (w : World) (h : Row w a len X Y) :
    Calls Try.prog 24 #[.slice a len cap] w fun e w' => e = .returned (.tuple #[.agg #[.int .i64 (totX len X Y), .int .i64 (totY len X Y)], .bool (totB len X Y)]) ∧ Below w.heap.size w w' := by
  obtain ⟨hm, h⟩ := h
  by_cases hl : len ≤ 1000
  · by_cases k : TotOk len X Y
    · rw [(tot_yes k).1, (tot_yes k).2.1, (tot_yes k).2.2]
      rcases h with rfl | ⟨b, off, rfl, hc⟩
      · exact totals_nil a cap w
      · exact totals_yes b off len cap X Y w hl hc (fun i hi => (k.2 i hi).1) (fun i hi => (k.2 i hi).2)
    · obtain ⟨j, j1, j2, j3, j4⟩ := bad_of hl k
      rw [(tot_no k).1, (tot_no k).2.1, (tot_no k).2.2]
      rcases h with rfl | ⟨b, off, rfl, hc⟩
      · omega
      · exact totals_bad b off len cap j X Y w hl j1 hc j3 j4 j2
  · have k : ¬ TotOk len X Y := fun k => hl k.1
    rw [(tot_no k).1, (tot_no k).2.1, (tot_no k).2.2]
    exact totals_long a len cap w (by omega) hm

theorem rtotals_any (a : Option Addr) (len cap : Nat) (X Y : Nat → Int) (w : World) (h : Row w a len X Y) :
    Calls Try.prog 25 #[.slice a len cap] w fun e w' => e = .returned (.tuple #[.agg #[.int .i64 (totX len X Y), .int .i64 (totY len X Y)], .bool (totB len X Y)]) ∧ Below w.heap.size w w' := by
  obtain ⟨hm, h⟩ := h
  by_cases hl : len ≤ 1000
  · by_cases k : TotOk len X Y
    · rw [(tot_yes k).1, (tot_yes k).2.1, (tot_yes k).2.2]
      rcases h with rfl | ⟨b, off, rfl, hc⟩
      · exact rtotals_nil a cap w
      · exact rtotals_yes b off len cap X Y w hl hc (fun i hi => (k.2 i hi).1) (fun i hi => (k.2 i hi).2)
    · obtain ⟨j, j1, j2, j3, j4⟩ := bad_of hl k
      rw [(tot_no k).1, (tot_no k).2.1, (tot_no k).2.2]
      rcases h with rfl | ⟨b, off, rfl, hc⟩
      · omega
      · exact rtotals_bad b off len cap j X Y w hl j1 hc j3 j4 j2
  · have k : ¬ TotOk len X Y := fun k => hl k.1
    rw [(tot_no k).1, (tot_no k).2.1, (tot_no k).2.2]
    rcases h with rfl | ⟨b, off, rfl, hc⟩
    · omega
    · exact rtotals_long b off len cap (X 0) w (by omega) hm (by simpa using (hc 0 (by omega)).1)

end Go.Proofs.Ythjlilepialmoaa.sat
