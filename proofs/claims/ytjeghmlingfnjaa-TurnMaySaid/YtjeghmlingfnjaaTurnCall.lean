/- Layer 10 (turn): who ranges over a round: the program's calls Count, Next. -/
import Derived.Test.YtjeghmlingfnjaaTurnIter
namespace Go.Proofs.Ytjeghmlingfnjaa.turn
open Go.RowKit Go.Shelf
set_option linter.unusedVariables false
set_option linter.unusedSimpArgs false
attribute [local go_sem] Oper.semAt_some

theorem keeps_set {n₀ Bl Bf B : Nat} (W : World) (v : Value) (hn : n₀ ≤ B) (hl : Bl ≠ B) (hf : Bf ≠ B) : Keeps n₀ Bl Bf W (W.setCell ⟨B, 0, none⟩ v) :=
  ⟨(Below.refl n₀ W).setCell (p := ⟨B, 0, none⟩) hn v, Below.heap_setCell W _ v Bl hl, Below.heap_setCell W _ v Bf hf⟩

set_option maxRecDepth 100000 in
set_option maxHeartbeats 4000000 in
theorem Count_in (F : Fence) (n : Nat) (h3 : F.fn 44) (h4 : F.fn 63) (h5 : F.fn 64) (hro : F.round = none) (hn : 3 ≤ n) (a : Option Addr) (bs : List Bool) (cap : Nat) (hlen : bs.length ≤ 1000000000) (w : World) (hI : Row w.heap.size w a bs) :
    CallsIn F n Try.prog 44 #[.slice a bs.length cap] w fun e W' => e = .returned (.int .i64 ((ups bs).length : Nat)) ∧ Below w.heap.size w W' := by
  have h1 : 1 ≤ n := by omega
  refine callsIn_of_wp_marks Try.func44 rfl h3 ?_ hro
  simp only [Try.ntmps44, List.size_toArray, List.length_cons, List.length_nil, Nat.reduceAdd, Nat.reduceSub, Array.replicate_succ, Array.replicate_zero, List.push_toArray, List.append_toArray, List.nil_append, List.cons_append]
  have bS := Boxed.new w 3 (.int .i64 0)
  have hB0 : Below w.heap.size w (w.alloc (.cells #[.int .i64 0] 3)) := (Below.refl _ w).alloc (Nat.le_refl _) _
  gi_wp2_with (gi_at_call 63; refine (round_in F (n - 1) h4 hro _ _ _ _ hlen _).mono ?_; rintro e w2 ⟨rfl, hB1, hsz, hcl, hcf⟩)
  rw [World.size_alloc] at hB1 hsz hcl hcf
  have bS2 : Boxed w2 w.heap.size 3 (.int .i64 0) := (hB1.block _ (by omega)).trans bS
  have hB2 : Below w.heap.size w w2 := hB0.trans (hB1.mono (by omega))
  have hfr : frm bs (-1) = 0 := if_neg (by omega)
  have hoo : (ord bs 0).length = (ups bs).length := ord_length bs 0 (Nat.zero_le _)
  rw [hfr] at hcf
  refine wpIn_rangeFunc_ownG hro h1 (gf := 64) (lb := #[.pointer (some ⟨w.heap.size + 1, 0, none⟩), .pointer (some ⟨w.heap.size + 1 + 1, 0, none⟩)]) rfl h5 (enters_of Try.func64 (by kernel_rfl) rfl)
    (round_stops F (n - 1) h5 hro (by omega) (w.heap.size + 1) (w.heap.size + 1 + 1) w.heap.size cap 0 a bs hlen (Nat.zero_le _) w2 (by omega) (by omega) (by omega) hcl hcf (hI.below hB2)) (fun h k => h.trans k) (keeps_b (by omega) (by omega) (by omega)) (Below.refl _ _) (fun _ => rfl)
    (fun pre W => (W.cell? ⟨w.heap.size, 0, none⟩ = some (.int .i64 (pre.length : Nat)) ∧ W.frozen? ⟨w.heap.size, 0, none⟩ = false) ∧ Below w.heap.size w W)
    (fun _ _ _ => False)
    (OwnFrom.and (Own.from (fun s A B row hs hg hr => ⟨cell_kept hs.1 hg hr, (frozen_kept hs.1 hg hr).trans hs.2⟩) _) (ownFrom_below (Nat.le_refl _) (by omega)))
    (fun _ _ _ _ _ hs _ _ => hs)
    ⟨⟨bS2.cell, bS2.frozen⟩, hB2⟩
    (fun x => { tmps := #[.slice a bs.length cap, undef, .int .i64 0, .pointer (some ⟨w.heap.size, 0, none⟩), .slice a bs.length cap, .func (.func 64) #[] #[.pointer (some ⟨w.heap.size + 1, 0, none⟩), .pointer (some ⟨w.heap.size + 1 + 1, 0, none⟩)], .int .i64 (x : Nat), undef, undef, undef], defers := [] }) ?assign ?body ?done ?stop
  case assign =>
    intro l x W K hK
    gi_wp2
    simpa using hK
  case body =>
    rintro l pre x W ⟨⟨hc, hf⟩, hB⟩ hpl
    have hw : wrap64 ((pre.length : Int) + 1) = (pre.length : Int) + 1 := by unfold wrap64; omega
    have hl2 : (((pre ++ [x]).length : Nat) : Int) = (pre.length : Int) + 1 := by simp
    gi_wp2
    refine ⟨(KeepsOthers.setCell _ _ _).from _, keeps_set _ _ (Nat.le_refl _) (by omega) (by omega), ⟨?_, by rw [World.frozen?_setCell]; exact hf⟩, hB.setCell (p := ⟨w.heap.size, 0, none⟩) (Nat.le_refl _) _⟩
    rw [hl2]
    exact World.cell?_setCell_same' _ _ _ (by rw [hc]; rfl)
  case done =>
    rintro D ys W hD rfl ⟨⟨hc, _⟩, hB⟩ hK
    rw [hoo] at hc
    gi_wp2
    refine ⟨by simp, .inl ⟨_, _, rfl, run_takeDeferred hK, ?_⟩⟩
    exact ⟨_, results_tmp rfl _ _ _, rfl, hB.trans (belowK_b (w := w) (Nat.le_refl _) W D _ _ (by omega) hK rfl rfl)⟩
  case stop =>
    rintro D c pre W _ _ h _
    exact h.elim

set_option maxRecDepth 100000 in
set_option maxHeartbeats 4000000 in
theorem Next_in (F : Fence) (n : Nat) (h3 : F.fn 48) (h4 : F.fn 63) (h5 : F.fn 64) (hro : F.round = none) (hn : 3 ≤ n) (a : Option Addr) (bs : List Bool) (cap : Nat) (last : Int) (hlen : bs.length ≤ 1000000000) (w : World) (hI : Row w.heap.size w a bs) :
    CallsIn F n Try.prog 48 #[.slice a bs.length cap, .int .i64 last] w fun e W' => e = .returned (.int .i64 (nxt bs last)) ∧ Below w.heap.size w W' := by
  have h1 : 1 ≤ n := by omega
  refine callsIn_of_wp_marks Try.func48 rfl h3 ?_ hro
  simp only [Try.ntmps48, List.size_toArray, List.length_cons, List.length_nil, Nat.reduceAdd, Nat.reduceSub, Array.replicate_succ, Array.replicate_zero, List.push_toArray, List.append_toArray, List.nil_append, List.cons_append]
  have bS := Boxed.new w 3 (.int .i64 0)
  have hB0 : Below w.heap.size w (w.alloc (.cells #[.int .i64 0] 3)) := (Below.refl _ w).alloc (Nat.le_refl _) _
  gi_wp2_with (gi_at_call 63; refine (round_in F (n - 1) h4 hro _ _ _ _ hlen _).mono ?_; rintro e w2 ⟨rfl, hB1, hsz, hcl, hcf⟩)
  rw [World.size_alloc] at hB1 hsz hcl hcf
  have bS2 : Boxed w2 w.heap.size 3 (.int .i64 0) := (hB1.block _ (by omega)).trans bS
  have hB2 : Below w.heap.size w w2 := hB0.trans (hB1.mono (by omega))
  have hfl := frm_le bs last
  have hnx : nxt bs last = oi (ord bs (frm bs last)).head? := rfl
  generalize frm bs last = f at *
  refine wpIn_rangeFunc_ownG hro h1 (gf := 64) (lb := #[.pointer (some ⟨w.heap.size + 1, 0, none⟩), .pointer (some ⟨w.heap.size + 1 + 1, 0, none⟩)]) rfl h5 (enters_of Try.func64 (by kernel_rfl) rfl)
    (round_stops F (n - 1) h5 hro (by omega) (w.heap.size + 1) (w.heap.size + 1 + 1) w.heap.size cap f a bs hlen hfl w2 (by omega) (by omega) (by omega) hcl hcf (hI.below hB2)) (fun h k => h.trans k) (keeps_b (by omega) (by omega) (by omega)) (Below.refl _ _) (fun _ => rfl)
    (fun pre W => (pre = [] ∧ W.cell? ⟨w.heap.size, 0, none⟩ = some (.int .i64 0) ∧ W.frozen? ⟨w.heap.size, 0, none⟩ = false) ∧ Below w.heap.size w W)
    (fun c pre W => (c = .ret ∧ ∃ x : Nat, pre = [x] ∧ W.cell? ⟨w.heap.size, 0, none⟩ = some (.int .i64 (x : Int))) ∧ Below w.heap.size w W)
    (OwnFrom.and (Own.from (fun s A B row hs hg hr => ⟨hs.1, cell_kept hs.2.1 hg hr, (frozen_kept hs.2.1 hg hr).trans hs.2.2⟩) _) (ownFrom_below (Nat.le_refl _) (by omega)))
    (fun c => OwnFrom.and (Own.from (fun s A B row hs hg hr => by obtain ⟨hc, x, e1, e2⟩ := hs; exact ⟨hc, x, e1, cell_kept e2 hg hr⟩) _) (ownFrom_below (Nat.le_refl _) (by omega)))
    ⟨⟨rfl, bS2.cell, bS2.frozen⟩, hB2⟩
    (fun x => { tmps := #[.slice a bs.length cap, .int .i64 last, undef, undef, .pointer (some ⟨w.heap.size, 0, none⟩), .int .i64 (x : Nat), .slice a bs.length cap, .int .i64 last, .func (.func 64) #[] #[.pointer (some ⟨w.heap.size + 1, 0, none⟩), .pointer (some ⟨w.heap.size + 1 + 1, 0, none⟩)], .int .i64 (x : Nat), undef], defers := [] }) ?assign ?body ?done ?stop
  case assign =>
    intro l x W K hK
    gi_wp2
    exact hK
  case body =>
    rintro l pre x W ⟨⟨rfl, hc, hf⟩, hB⟩ hpl
    gi_wp2
    exact ⟨(KeepsOthers.setCell _ _ _).from _, ⟨rfl, x, rfl, World.cell?_setCell_same' _ _ _ (by rw [hc]; rfl)⟩, hB.setCell (p := ⟨w.heap.size, 0, none⟩) (Nat.le_refl _) _⟩
  case done =>
    rintro D ys W hD rfl ⟨⟨hnil, hcr, hfr⟩, hB⟩ hK
    rw [hnil] at hnx
    have hnv : nxt bs last = -1 := hnx
    clear hnx
    gi_wp2
    have hK' := (KeepsOthers.setCell W ⟨w.heap.size, 0, none⟩ (.int .i64 (-1))).same D _ hK rfl
    refine ⟨by simp, .inl ⟨_, _, rfl, run_takeDeferred hK', ?_⟩⟩
    have hc5 := cell_kept (World.cell?_setCell_same' W ⟨w.heap.size, 0, none⟩ (.int .i64 (-1)) (by rw [hcr]; rfl)) (grownBy_putObj' _ D (.deferred none)) (fun r e => by cases e; exact ⟨_, hK', rfl⟩)
    refine ⟨.int .i64 (-1), ?_, by rw [hnv], (hB.setCell (p := ⟨w.heap.size, 0, none⟩) (Nat.le_refl _) _).trans (belowK_b (w := w) (Nat.le_refl _) _ D _ _ (by omega) hK' rfl rfl)⟩
    simp [results, Try.f48, go_sem, hc5]
  case stop =>
    rintro D c pre W hD ⟨k, x, hk, hx, ho, hp⟩ ⟨⟨rfl, x', e1, hcr⟩, hB⟩ hK
    have hpx := sq_stop hfl hk hx ho
    rw [← hp, e1] at hpx
    obtain ⟨r, hr⟩ := hpx
    rw [← hr] at hnx
    have hnv : nxt bs last = (x' : Int) := hnx
    clear hnx
    gi_wp2
    refine ⟨by simp, .inl ⟨_, _, rfl, run_takeDeferred hK, ?_⟩⟩
    have hc5 := cell_kept hcr (grownBy_putObj' _ D (.deferred none)) (fun r e => by cases e; exact ⟨_, hK, rfl⟩)
    refine ⟨.int .i64 (x' : Int), ?_, by rw [hnv], hB.trans (belowK_b (w := w) (Nat.le_refl _) W D _ _ (by omega) hK rfl rfl)⟩
    simp [results, Try.f48, go_sem, hc5]

set_option maxRecDepth 100000 in
set_option maxHeartbeats 4000000 in
theorem Pick_in (F : Fence) (n : Nat) (h2 : F.fn 46) (h3 : F.fn 44) (h4 : F.fn 63) (h5 : F.fn 64) (hro : F.round = none) (hn : 5 ≤ n) (a : Option Addr) (bs : List Bool) (cap : Nat) (m : Int) (hm : -9223372036854775808 ≤ m ∧ m < 9223372036854775808) (hlen : bs.length ≤ 1000000000) (w : World) (hI : Row w.heap.size w a bs) :
    CallsIn F n Try.prog 46 #[.slice a bs.length cap, .int .i64 m] w fun e W' => e = .returned (.int .i64 (pck bs m)) ∧ Below w.heap.size w W' := by
  have h1 : 1 ≤ n := by omega
  have hle := ups_le bs
  refine callsIn_of_wp_marks Try.func46 rfl h2 ?_ hro
  simp only [Try.ntmps46, List.size_toArray, List.length_cons, List.length_nil, Nat.reduceAdd, Nat.reduceSub, Array.replicate_succ, Array.replicate_zero, List.push_toArray, List.append_toArray, List.nil_append, List.cons_append]
  have bS := Boxed.new w 3 (.int .i64 0)
  have hB0 : Below w.heap.size w (w.alloc (.cells #[.int .i64 0] 3)) := (Below.refl _ w).alloc (Nat.le_refl _) _
  have hI1 : Row (w.alloc (.cells #[.int .i64 0] 3)).heap.size (w.alloc (.cells #[.int .i64 0] 3)) a bs := by
    rcases hI.below hB0 with h | ⟨b, off, e, hb, hc⟩
    · exact .inl h
    · exact .inr ⟨b, off, e, by rw [World.size_alloc]; omega, hc⟩
  have hw3 : CallsIn F (n - 1) Try.prog 44 #[.slice a bs.length cap] (w.alloc (.cells #[.int .i64 0] 3)) fun e w2 => e = .returned (.int .i64 ((ups bs).length : Nat)) ∧ Below w.heap.size w w2 ∧ w.heap.size + 1 ≤ w2.heap.size ∧ w2.cell? ⟨w.heap.size, 0, none⟩ = some (.int .i64 0) ∧ w2.frozen? ⟨w.heap.size, 0, none⟩ = false :=
    (Count_in F (n - 1) h3 h4 h5 hro (by omega) a bs cap hlen _ hI1).mono fun e w2 ⟨he, hB⟩ => by
      rw [World.size_alloc] at hB
      have bS2 : Boxed w2 w.heap.size 3 (.int .i64 0) := (hB.block _ (by omega)).trans bS
      have := hB.size
      exact ⟨he, hB0.trans (hB.mono (by omega)), by simpa using this, bS2.cell, bS2.frozen⟩
  clear hI1 hB0 bS
  by_cases hz : (ups bs).length = 0
  · have hpv : pck bs m = -1 := by
      unfold pck
      rw [List.eq_nil_of_length_eq_zero hz]
      split <;> rfl
    rw [hz] at hw3
    gi_wp2_with (gi_at_call 44; refine hw3.mono ?_; rintro e w2 ⟨rfl, hB, hsz, hc, hf⟩)
    have hc5 := World.cell?_setCell_same' w2 ⟨w.heap.size, 0, none⟩ (.int .i64 (-1)) (by rw [hc]; rfl)
    refine ⟨.int .i64 (-1), ?_, by rw [hpv], hB.setCell (p := ⟨w.heap.size, 0, none⟩) (Nat.le_refl _) _⟩
    simp [results, Try.f46, go_sem, hc5]
  · have hz0 : ¬ ((((ups bs).length : Nat) : Int) = 0) := by omega
    by_cases hneg : m < 0
    · have hpv : pck bs m = -1 := if_pos hneg
      gi_wp2_with (gi_at_call 44; refine hw3.mono ?_; rintro e w2 ⟨rfl, hB, hsz, hc, hf⟩)
      have hc5 := World.cell?_setCell_same' w2 ⟨w.heap.size, 0, none⟩ (.int .i64 (-1)) (by rw [hc]; rfl)
      refine ⟨.int .i64 (-1), ?_, by rw [hpv], hB.setCell (p := ⟨w.heap.size, 0, none⟩) (Nat.le_refl _) _⟩
      simp [results, Try.f46, go_sem, hc5]
    · have hzb : ((((ups bs).length : Nat) : Int) == 0) = false := by simpa using hz
      have hmb : decide (m < 0) = false := by simpa using hneg
      have hm0 : 0 ≤ m := by omega
      obtain ⟨qn, hqe, hqn, hqm⟩ : ∃ qn : Nat, m % (((ups bs).length : Nat) : Int) = (qn : Int) ∧ qn < (ups bs).length ∧ qn = m.toNat % (ups bs).length := by
        have e : m % (((ups bs).length : Nat) : Int) = ((m.toNat % (ups bs).length : Nat) : Int) := by
          rw [Int.natCast_emod]
          congr 1
          omega
        exact ⟨_, e, Nat.mod_lt _ (by omega), rfl⟩
      have hpv : pck bs m = oi (ups bs)[qn]? := by rw [hqm]; exact if_neg hneg
      clear hqm
      gi_wp2_with (first | (rw [hqe]) | (gi_at_call 44; refine hw3.mono ?_; rintro e w2 ⟨rfl, hB, hsz, hc, hf⟩) | (gi_at_call 63; refine (round_in F (n - 1) h4 hro _ _ _ _ hlen _).mono ?_; rintro e w3 ⟨rfl, hB3, hsz3, hcl, hcf⟩))
      have bA := Boxed.new w2 3 (.int .i64 (qn : Int))
      have hcw := cell_kept hc (World.grownBy_alloc w2 (.cells #[.int .i64 (qn : Int)] 3) none) (fun r e => by cases e)
      have hfw := (frozen_kept hc (World.grownBy_alloc w2 (.cells #[.int .i64 (qn : Int)] 3) none) (fun r e => by cases e)).trans hf
      have hBw : Below w.heap.size w (w2.alloc (.cells #[.int .i64 (qn : Int)] 3)) := hB.alloc (by omega) _
      rw [World.size_alloc] at hB3 hsz3 hcl hcf
      have bA3 : Boxed w3 w2.heap.size 3 (.int .i64 (qn : Int)) := (hB3.block _ (by omega)).trans bA
      have hc3 : w3.cell? ⟨w.heap.size, 0, none⟩ = some (.int .i64 0) := (hB3.cell (p := ⟨w.heap.size, 0, none⟩) (by show w.heap.size < w2.heap.size + 1; omega)).trans hcw
      have hf3 : w3.frozen? ⟨w.heap.size, 0, none⟩ = false := by
        have e : w3.heap[w.heap.size]? = (w2.alloc (.cells #[.int .i64 (qn : Int)] 3)).heap[w.heap.size]? := hB3.block _ (by omega)
        have : w3.frozen? ⟨w.heap.size, 0, none⟩ = (w2.alloc (.cells #[.int .i64 (qn : Int)] 3)).frozen? ⟨w.heap.size, 0, none⟩ := by simp only [World.frozen?, e]
        rw [this]
        exact hfw
      have hBe : Below w.heap.size w w3 := hBw.trans (hB3.mono (by omega))
      have hfr : frm bs (-1) = 0 := if_neg (by omega)
      have hoo : ord bs 0 = ups bs := by
        have := lo_hi bs 0 (Nat.zero_le _)
        rw [this]
        simp [ord, lo]
      rw [hfr] at hcf
      have hIe := hI.below hBe
      clear bA hcw hfw hBw hB3 hc hf hB hw3
      refine wpIn_rangeFunc_ownG hro h1 (gf := 64) (lb := #[.pointer (some ⟨w2.heap.size + 1, 0, none⟩), .pointer (some ⟨w2.heap.size + 1 + 1, 0, none⟩)]) rfl h5 (enters_of Try.func64 (by kernel_rfl) rfl)
        (round_stops F (n - 1) h5 hro (by omega) (w2.heap.size + 1) (w2.heap.size + 1 + 1) w.heap.size cap 0 a bs hlen (Nat.zero_le _) w3 (by omega) (by omega) (by omega) hcl hcf hIe) (fun h k => h.trans k) (keeps_b (by omega) (by omega) (by omega)) (Below.refl _ _) (fun _ => rfl)
        (fun pre W => (pre.length ≤ qn ∧ (W.cell? ⟨w.heap.size, 0, none⟩ = some (.int .i64 0) ∧ W.frozen? ⟨w.heap.size, 0, none⟩ = false) ∧ W.cell? ⟨w2.heap.size, 0, none⟩ = some (.int .i64 ((qn - pre.length : Nat) : Int)) ∧ W.frozen? ⟨w2.heap.size, 0, none⟩ = false) ∧ Below w.heap.size w W)
        (fun c pre W => (c = .ret ∧ ∃ (ini : List Nat) (x : Nat), pre = ini ++ [x] ∧ ini.length = qn ∧ W.cell? ⟨w.heap.size, 0, none⟩ = some (.int .i64 (x : Int))) ∧ Below w.heap.size w W)
        (OwnFrom.and (Own.from (fun s A B row hs hg hr => ⟨hs.1, ⟨cell_kept hs.2.1.1 hg hr, (frozen_kept hs.2.1.1 hg hr).trans hs.2.1.2⟩, cell_kept hs.2.2.1 hg hr, (frozen_kept hs.2.2.1 hg hr).trans hs.2.2.2⟩) _) (ownFrom_below (Nat.le_refl _) (by omega)))
        (fun c => OwnFrom.and (Own.from (fun s A B row hs hg hr => by obtain ⟨hc, ini, x, e1, e2, e3⟩ := hs; exact ⟨hc, ini, x, e1, e2, cell_kept e3 hg hr⟩) _) (ownFrom_below (Nat.le_refl _) (by omega)))
        ⟨⟨Nat.zero_le _, ⟨hc3, hf3⟩, bA3.cell, bA3.frozen⟩, hBe⟩
        (fun x => { tmps := #[.slice a bs.length cap, .int .i64 m, undef, undef, .pointer (some ⟨w.heap.size, 0, none⟩), .int .i64 ((ups bs).length : Nat), .pointer (some ⟨w2.heap.size, 0, none⟩), .int .i64 (x : Nat), .slice a bs.length cap, .int .i64 ((ups bs).length : Nat), .int .i64 ((ups bs).length : Nat), .bool false, .bool false, .int .i64 m, .bool false, .bool false, .int .i64 m, .int .i64 ((ups bs).length : Nat), .int .i64 (qn : Nat), .slice a bs.length cap, .func (.func 64) #[] #[.pointer (some ⟨w2.heap.size + 1, 0, none⟩), .pointer (some ⟨w2.heap.size + 1 + 1, 0, none⟩)], .int .i64 (x : Nat), undef, undef, undef, undef, undef], defers := [] }) ?assign ?body ?done ?stop
      case assign =>
        intro l x W K hK
        gi_wp2
        exact hK
      case body =>
        rintro l pre x W ⟨⟨hpl, ⟨hc, hf⟩, hca, hfa⟩, hB⟩ _
        by_cases hq : pre.length = qn
        · rw [show ((qn - pre.length : Nat) : Int) = 0 from by omega] at hca
          gi_wp2
          exact ⟨(KeepsOthers.setCell _ _ _).from _, ⟨rfl, pre, x, rfl, hq, World.cell?_setCell_same' _ _ _ (by rw [hc]; rfl)⟩, hB.setCell (p := ⟨w.heap.size, 0, none⟩) (Nat.le_refl _) _⟩
        · obtain ⟨d, hd⟩ : ∃ d : Nat, d = qn - pre.length := ⟨_, rfl⟩
          have hdz : (((d : Nat) : Int) == 0) = false := by simp; omega
          have hsub : wrap64 ((d : Int) - 1) = (d : Int) - 1 := by unfold wrap64; omega
          have hnew : ((qn - (pre ++ [x]).length : Nat) : Int) = (d : Int) - 1 := by simp; omega
          rw [← hd] at hca
          clear hd
          gi_wp2
          refine ⟨(KeepsOthers.setCell _ _ _).from _, keeps_set _ _ (by omega) (by omega) (by omega), ⟨by simp; omega, ⟨?_, ?_⟩, ?_, by rw [World.frozen?_setCell]; exact hfa⟩, hB.setCell (p := ⟨w2.heap.size, 0, none⟩) (by show w.heap.size ≤ w2.heap.size; omega) _⟩
          · exact (cell_of_heap (Below.heap_setCell W _ _ _ (by show w.heap.size ≠ w2.heap.size; omega))).trans hc
          · rw [World.frozen?_setCell]; exact hf
          · rw [hnew]
            exact World.cell?_setCell_same' _ _ _ (by rw [hca]; rfl)
      case done =>
        rintro D ys W hD rfl ⟨⟨hpl, _⟩, hB⟩ hK
        rw [hoo] at hpl
        omega
      case stop =>
        rintro D c pre W hD ⟨k, x, hk, hx, ho, hp⟩ ⟨⟨rfl, ini, x', e1, e2, hcr⟩, hB⟩ hK
        have hpx := sq_stop (Nat.zero_le _) hk hx ho
        rw [← hp, e1, hoo] at hpx
        obtain ⟨r, hr⟩ := hpx
        have hat : (ups bs)[qn]? = some x' := by rw [← hr, ← e2]; simp
        rw [hat] at hpv
        have hpv : pck bs m = (x' : Int) := hpv
        gi_wp2
        refine ⟨by simp, .inl ⟨_, _, rfl, run_takeDeferred hK, ?_⟩⟩
        have hc5 := cell_kept hcr (grownBy_putObj' _ D (.deferred none)) (fun r e => by cases e; exact ⟨_, hK, rfl⟩)
        refine ⟨.int .i64 (x' : Int), ?_, by rw [hpv], hB.trans (belowK_b (w := w) (Nat.le_refl _) W D _ _ (by omega) hK rfl rfl)⟩
        simp [results, Try.f46, go_sem, hc5]
end Go.Proofs.Ytjeghmlingfnjaa.turn
