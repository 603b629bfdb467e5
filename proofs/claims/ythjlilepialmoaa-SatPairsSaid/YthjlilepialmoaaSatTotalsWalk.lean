import Derived.Test.YthjlilepialmoaaSatRefTot
import Derived.WalkSpells
namespace Go.Proofs.Ythjlilepialmoaa.satTotals
open Go.RowKit Go.ChangeShapes Go.WideShapes sat
set_option linter.unusedVariables false

theorem row_of {w : World} {a : Option Addr} {len cap : Nat} {X Y : Nat → Int} (h : IsPairs w a len cap X Y) : Row w a len X Y := by
  rcases h with ⟨rfl, rfl⟩ | ⟨b, off, rfl, hl, hm, hc, _⟩
  · exact ⟨Nat.zero_le _, Or.inl rfl⟩
  · exact ⟨by omega, Or.inr ⟨b, off, rfl, fun i hi => hc i (by omega)⟩⟩

theorem bcell {w w1 : World} (hb : Below w.heap.size w w1) : (∀ b o, b < w.heap.size → w1.cell? ⟨b, o, none⟩ = w.cell? ⟨b, o, none⟩) ∧ (∀ b o, b < w.heap.size → w1.frozen? ⟨b, o, none⟩ = w.frozen? ⟨b, o, none⟩) :=
  ⟨fun b o h => hb.cell (p := ⟨b, o, none⟩) h, fun b o h => hb.frozen (p := ⟨b, o, none⟩) h⟩

theorem row_below {w w' : World} {a : Option Addr} {len : Nat} {X Y : Nat → Int} (h : Row w a len X Y) (hb : Below w.heap.size w w') : Row w' a len X Y := by
  refine ⟨h.1, h.2.imp id ?_⟩
  rintro ⟨b, off, rfl, hc⟩
  refine ⟨b, off, rfl, fun i hi => ?_⟩
  have hlt : b < w.heap.size := World.block_lt_of_cell? w _ (hc i hi).1
  exact ⟨(hb.cell (p := ⟨b, off + i * 2, none⟩) hlt).trans (hc i hi).1, (hb.cell (p := ⟨b, off + i * 2 + 1, none⟩) hlt).trans (hc i hi).2⟩

abbrev TotIs (len cap : Nat) (X Y : Nat → Int) (tx ty : Int) (tb : Bool) : Prop :=
  ∀ a w, Row w a len X Y → Calls Try.prog 24 #[.slice a len cap] w fun e w' => e = .returned (.tuple #[.agg #[.int .i64 tx, .int .i64 ty], .bool tb]) ∧ Below w.heap.size w w'
abbrev RTotIs (len cap : Nat) (X Y : Nat → Int) (tx ty : Int) (tb : Bool) : Prop :=
  ∀ a w, Row w a len X Y → Calls Try.prog 25 #[.slice a len cap] w fun e w' => e = .returned (.tuple #[.agg #[.int .i64 tx, .int .i64 ty], .bool tb]) ∧ Below w.heap.size w w'

theorem below_next {w0 w w1 : World} {o : Obj} (h0 : Below w0.heap.size w0 w) (hb : Below (w.alloc o).heap.size (w.alloc o) w1) : Below w0.heap.size w0 w1 :=
  (h0.alloc h0.size _).trans (hb.mono (by have := h0.size; simp; omega))

theorem row_take {w : World} {a : Option Addr} {len k : Nat} {X Y : Nat → Int} (h : Row w a len X Y) (hk : k ≤ len) : Row w a k X Y := by
  refine ⟨Nat.le_trans hk h.1, ?_⟩
  rcases h.2 with h0 | ⟨b, off, rfl, hc⟩
  · exact Or.inl (by omega)
  · exact Or.inr ⟨b, off, rfl, fun i hi => hc i (by omega)⟩

theorem row_drop {w : World} {b off len k : Nat} {X Y : Nat → Int} (h : Row w (some ⟨b, off, none⟩) len X Y) (hk : k ≤ len) : Row w (some ⟨b, off + k * 2, none⟩) (len - k) (fun i => X (k + i)) (fun i => Y (k + i)) := by
  refine ⟨Nat.le_trans (Nat.sub_le _ _) h.1, ?_⟩
  rcases h.2 with h0 | ⟨b', off', he, hc⟩
  · exact Or.inl (by omega)
  · refine Or.inr ⟨b, off + k * 2, rfl, fun i hi => ?_⟩
    simp only [Option.some.injEq, Addr.mk.injEq] at he
    obtain ⟨rfl, rfl, _⟩ := he
    have := hc (k + i) (by omega)
    rw [show off + (k + i) * 2 = off + k * 2 + i * 2 from by omega] at this
    exact this

theorem row_none {w : World} {a : Option Addr} {X Y : Nat → Int} : Row w a 0 X Y := ⟨Nat.zero_le _, Or.inl rfl⟩

theorem cell_alloc {w : World} {a : Addr} {v : Value} (o : Obj) (h : w.cell? a = some v) : (w.alloc o).cell? a = some v := by
  rw [World.cell?_alloc_lt _ _ _ (World.block_lt_of_cell? w _ h)]
  exact h

/-- Two cells that a call has made are there, three calls later. -/
theorem two_later {w1 w2 w3 w4 : World} (a b : Value) {o2 o3 o4 : Obj} (h2 : Below (w1.alloc (.cells #[a, b] 29 (0, 0))).heap.size (w1.alloc (.cells #[a, b] 29 (0, 0))) w2) (h3 : Below (w2.alloc o2).heap.size (w2.alloc o2) w3) (h4 : Below (w3.alloc o3).heap.size (w3.alloc o3) w4) :
    (w4.alloc o4).cell? ⟨w1.heap.size, 0, none⟩ = some a ∧ (w4.alloc o4).cell? ⟨w1.heap.size, 1, none⟩ = some b :=
  ⟨cell_alloc _ (cell_later h4 (cell_alloc _ (cell_later h3 (cell_alloc _ (cell_later h2 (by simp)))))), cell_alloc _ (cell_later h4 (cell_alloc _ (cell_later h3 (cell_alloc _ (cell_later h2 (by simp))))))⟩

theorem one_later {w3 w4 : World} (a b : Value) {o4 : Obj} (h4 : Below (w3.alloc (.cells #[a, b] 29 (0, 0))).heap.size (w3.alloc (.cells #[a, b] 29 (0, 0))) w4) :
    (w4.alloc o4).cell? ⟨w3.heap.size, 0, none⟩ = some a ∧ (w4.alloc o4).cell? ⟨w3.heap.size, 1, none⟩ = some b :=
  ⟨cell_alloc _ (cell_later h4 (by simp)), cell_alloc _ (cell_later h4 (by simp))⟩

set_option maxHeartbeats 4000000 in
set_option maxRecDepth 100000 in
/-- The cut lies within the room. -/
theorem core (b off len cap k : Nat) (X Y : Nat → Int) (tx ty cx cy dx dy : Int) (tb cb db : Bool) (w : World) (hl : len ≤ 2000) (hk : k ≤ len) (hlc : len ≤ cap) (hcap : cap ≤ maxLen) (hkc : k < cap)
    (hr : Row w (some ⟨b, off, none⟩) len X Y) (bd : (0 ≤ cx ∧ cx ≤ 1125899906842624) ∧ (0 ≤ cy ∧ cy ≤ 1125899906842624) ∧ (0 ≤ dx ∧ dx ≤ 1125899906842624) ∧ (0 ≤ dy ∧ dy ≤ 1125899906842624))
    (hcase : (tb = false ∧ tx = 0 ∧ ty = 0) ∨ (tb = true ∧ cb = true ∧ db = true ∧ (tx == cx + dx) = true ∧ (ty == cy + dy) = true))
    (HT : Hid (TotIs len cap X Y tx ty tb)) (HR : Hid (RTotIs len cap X Y tx ty tb)) (HC : Hid (TotIs k cap X Y cx cy cb)) (HD : Hid (TotIs (len - k) (cap - k) (fun i => X (k + i)) (fun i => Y (k + i)) dx dy db)) :
    Calls Try.prog 4 #[.slice (some ⟨b, off, none⟩) len cap, .int .i64 k] w fun e w' => e = .returned (.bool true) ∧ Below w.heap.size w w' := by
  unfold maxLen at hcap
  obtain ⟨⟨b0, b1⟩, ⟨b2, b3⟩, ⟨b4, b5⟩, ⟨b6, b7⟩⟩ := bd
  rcases hcase with ⟨rfl, rfl, rfl⟩ | ⟨rfl, rfl, rfl, e1, e2⟩
  · have heq := fun w => eq_two 0 0 0 0 w
    go_enter Try.func4, Try.ntmps4
    go_wp2_with fail
    refine (HT.out _ _ hr).mono ?_
    rintro e w1 ⟨rfl, hb1⟩
    go_wp2_with fail
    refine (HR.out _ _ (row_below hr (hb1.alloc hb1.size _))).mono ?_
    rintro e w2 ⟨rfl, hb2⟩
    obtain ⟨q2, _⟩ := bcell hb2
    have z2 : w1.heap.size < w2.heap.size := by have := hb2.size; simp at this; omega
    go_wp2_with fail
    have B2 := below_next hb1 hb2
    refine (HC.out _ _ (row_take (row_below hr (B2.alloc B2.size _)) hk)).mono ?_
    rintro e w3 ⟨rfl, hb3⟩
    have B3 := below_next B2 hb3
    clear q2 z2
    go_wp2_with fail
    refine (HD.out _ _ (row_drop (row_below hr (B3.alloc B3.size _)) hk)).mono ?_
    rintro e w4 ⟨rfl, hb4⟩
    have B4 := below_next B3 hb4
    obtain ⟨s0, s1⟩ := two_later (o4 := .cells #[.int .i64 dx, .int .i64 dy] 29 (0, 0)) _ _ hb2 hb3 hb4
    obtain ⟨s2, s3⟩ := one_later (o4 := .cells #[.int .i64 dx, .int .i64 dy] 29 (0, 0)) _ _ hb4
    go_wp2_with fail
    refine (live_true _).mono ?_
    rintro e w5 ⟨rfl, hb5⟩
    have B5 := below_next B4 hb5
    go_wp2_with fail
    go_ret
    exact ⟨rfl, B5⟩
  · have heq := fun w => eq_two tx ty tx ty w
    go_enter Try.func4, Try.ntmps4
    go_wp2_with fail
    refine (HT.out _ _ hr).mono ?_
    rintro e w1 ⟨rfl, hb1⟩
    go_wp2_with fail
    refine (HR.out _ _ (row_below hr (hb1.alloc hb1.size _))).mono ?_
    rintro e w2 ⟨rfl, hb2⟩
    obtain ⟨q2, _⟩ := bcell hb2
    have z2 : w1.heap.size < w2.heap.size := by have := hb2.size; simp at this; omega
    go_wp2_with fail
    have B2 := below_next hb1 hb2
    refine (HC.out _ _ (row_take (row_below hr (B2.alloc B2.size _)) hk)).mono ?_
    rintro e w3 ⟨rfl, hb3⟩
    have B3 := below_next B2 hb3
    clear q2 z2
    go_wp2_with fail
    refine (HD.out _ _ (row_drop (row_below hr (B3.alloc B3.size _)) hk)).mono ?_
    rintro e w4 ⟨rfl, hb4⟩
    have B4 := below_next B3 hb4
    obtain ⟨s0, s1⟩ := two_later (o4 := .cells #[.int .i64 dx, .int .i64 dy] 29 (0, 0)) _ _ hb2 hb3 hb4
    obtain ⟨s2, s3⟩ := one_later (o4 := .cells #[.int .i64 dx, .int .i64 dy] 29 (0, 0)) _ _ hb4
    go_wp2_with fail
    refine (live_true _).mono ?_
    rintro e w5 ⟨rfl, hb5⟩
    have B5 := below_next B4 hb5
    go_wp2_with fail
    go_ret
    exact ⟨rfl, B5⟩
set_option maxHeartbeats 4000000 in
set_option maxRecDepth 100000 in
/-- The cut is at the room's end. -/
theorem edge (a : Option Addr) (k : Nat) (X Y : Nat → Int) (tx ty cx cy dx dy : Int) (tb cb db : Bool) (w : World) (hl : k ≤ 2000) (hcap : k ≤ maxLen)
    (hr : Row w a k X Y) (bd : (0 ≤ cx ∧ cx ≤ 1125899906842624) ∧ (0 ≤ cy ∧ cy ≤ 1125899906842624) ∧ (0 ≤ dx ∧ dx ≤ 1125899906842624) ∧ (0 ≤ dy ∧ dy ≤ 1125899906842624))
    (hcase : (tb = false ∧ tx = 0 ∧ ty = 0) ∨ (tb = true ∧ cb = true ∧ db = true ∧ (tx == cx + dx) = true ∧ (ty == cy + dy) = true))
    (HT : Hid (TotIs k k X Y tx ty tb)) (HR : Hid (RTotIs k k X Y tx ty tb)) (HC : Hid (TotIs k k X Y cx cy cb)) (HD : Hid (TotIs 0 0 X Y dx dy db)) :
    Calls Try.prog 4 #[.slice a k k, .int .i64 k] w fun e w' => e = .returned (.bool true) ∧ Below w.heap.size w w' := by
  unfold maxLen at hcap
  obtain ⟨⟨b0, b1⟩, ⟨b2, b3⟩, ⟨b4, b5⟩, ⟨b6, b7⟩⟩ := bd
  rcases hcase with ⟨rfl, rfl, rfl⟩ | ⟨rfl, rfl, rfl, e1, e2⟩
  · have heq := fun w => eq_two 0 0 0 0 w
    go_enter Try.func4, Try.ntmps4
    go_wp2_with fail
    refine (HT.out _ _ hr).mono ?_
    rintro e w1 ⟨rfl, hb1⟩
    go_wp2_with fail
    refine (HR.out _ _ (row_below hr (hb1.alloc hb1.size _))).mono ?_
    rintro e w2 ⟨rfl, hb2⟩
    obtain ⟨q2, _⟩ := bcell hb2
    have z2 : w1.heap.size < w2.heap.size := by have := hb2.size; simp at this; omega
    go_wp2_with fail
    have B2 := below_next hb1 hb2
    refine (HC.out _ _ (row_below hr (B2.alloc B2.size _))).mono ?_
    rintro e w3 ⟨rfl, hb3⟩
    have B3 := below_next B2 hb3
    clear q2 z2
    go_wp2_with fail
    refine (HD.out _ _ row_none).mono ?_
    rintro e w4 ⟨rfl, hb4⟩
    have B4 := below_next B3 hb4
    obtain ⟨s0, s1⟩ := two_later (o4 := .cells #[.int .i64 dx, .int .i64 dy] 29 (0, 0)) _ _ hb2 hb3 hb4
    obtain ⟨s2, s3⟩ := one_later (o4 := .cells #[.int .i64 dx, .int .i64 dy] 29 (0, 0)) _ _ hb4
    go_wp2_with fail
    refine (live_true _).mono ?_
    rintro e w5 ⟨rfl, hb5⟩
    have B5 := below_next B4 hb5
    go_wp2_with fail
    go_ret
    exact ⟨rfl, B5⟩
  · have heq := fun w => eq_two tx ty tx ty w
    go_enter Try.func4, Try.ntmps4
    go_wp2_with fail
    refine (HT.out _ _ hr).mono ?_
    rintro e w1 ⟨rfl, hb1⟩
    go_wp2_with fail
    refine (HR.out _ _ (row_below hr (hb1.alloc hb1.size _))).mono ?_
    rintro e w2 ⟨rfl, hb2⟩
    obtain ⟨q2, _⟩ := bcell hb2
    have z2 : w1.heap.size < w2.heap.size := by have := hb2.size; simp at this; omega
    go_wp2_with fail
    have B2 := below_next hb1 hb2
    refine (HC.out _ _ (row_below hr (B2.alloc B2.size _))).mono ?_
    rintro e w3 ⟨rfl, hb3⟩
    have B3 := below_next B2 hb3
    clear q2 z2
    go_wp2_with fail
    refine (HD.out _ _ row_none).mono ?_
    rintro e w4 ⟨rfl, hb4⟩
    have B4 := below_next B3 hb4
    obtain ⟨s0, s1⟩ := two_later (o4 := .cells #[.int .i64 dx, .int .i64 dy] 29 (0, 0)) _ _ hb2 hb3 hb4
    obtain ⟨s2, s3⟩ := one_later (o4 := .cells #[.int .i64 dx, .int .i64 dy] 29 (0, 0)) _ _ hb4
    go_wp2_with fail
    refine (live_true _).mono ?_
    rintro e w5 ⟨rfl, hb5⟩
    have B5 := below_next B4 hb5
    go_wp2_with fail
    go_ret
    exact ⟨rfl, B5⟩

theorem sm_split (X : Nat → Int) (k n : Nat) : sm X (k + n) = sm X k + sm (fun i => X (k + i)) n := by
  induction n with
  | zero => simp [sm]
  | succ n ih =>
    have e : sm X (k + (n + 1)) = sm X (k + n) + X (k + n) := rfl
    rw [e, ih]
    simp only [sm]
    omega

theorem walk (a : Option Addr) (len cap : Nat) (X Y : Nat → Int) (cut : Int) (w : World) (h : IsPairs w a len cap X Y) (wc : (Lit.int .i64 cut).wf = true) :
    Calls Try.prog 4 #[.slice a len cap, .int .i64 cut] w fun e w' => e = .returned (.bool true) ∧ Below w.heap.size w w' := by
  have hr := row_of h
  have hm := hr.1
  unfold maxLen at hm
  have fc := bounds_i64 wc
  by_cases c0 : 2000 < len
  · go_enter Try.func4, Try.ntmps4
    go_wp2_with fail
    refine (live_true _).mono ?_
    rintro e w' ⟨rfl, hb⟩
    go_wp2_with fail
    go_ret
    exact ⟨rfl, hb⟩
  by_cases c1 : cut < 0
  · go_enter Try.func4, Try.ntmps4
    go_wp2_with fail
    refine (live_true _).mono ?_
    rintro e w' ⟨rfl, hb⟩
    go_wp2_with fail
    go_ret
    exact ⟨rfl, hb⟩
  by_cases c2 : (len : Int) < cut
  · go_enter Try.func4, Try.ntmps4
    go_wp2_with fail
    refine (live_true _).mono ?_
    rintro e w' ⟨rfl, hb⟩
    go_wp2_with fail
    go_ret
    exact ⟨rfl, hb⟩
  obtain ⟨k, rfl⟩ := Int.eq_ofNat_of_zero_le (Int.not_lt.1 c1)
  have hk : k ≤ len := by omega
  have T : ∀ n c (X Y : Nat → Int), TotIs n c X Y (totX n X Y) (totY n X Y) (totB n X Y) := fun n c X Y a w hr => totals_any a n c X Y w hr
  have R : RTotIs len cap X Y (totX len X Y) (totY len X Y) (totB len X Y) := fun a w hr => rtotals_any a len cap X Y w hr
  have small : ∀ (X : Nat → Int) n, n ≤ 1000 → (∀ i, i < n → 0 ≤ X i ∧ X i ≤ 1099511627776) → 0 ≤ sm X n ∧ sm X n ≤ 1125899906842624 := by
    intro X n hn hX
    have := sm_bd X n hX n (Nat.le_refl _)
    omega
  have bd : ∀ (n : Nat) (X Y : Nat → Int), (0 ≤ totX n X Y ∧ totX n X Y ≤ 1125899906842624) ∧ (0 ≤ totY n X Y ∧ totY n X Y ≤ 1125899906842624) := by
    intro n X Y
    by_cases q : TotOk n X Y
    · rw [(tot_yes q).1, (tot_yes q).2.1]
      exact ⟨small X n q.1 fun i hi => (q.2 i hi).1, small Y n q.1 fun i hi => (q.2 i hi).2⟩
    · rw [(tot_no q).1, (tot_no q).2.1]
      omega
  have all : ∀ n m (X Y : Nat → Int), TotOk (n + m) X Y → TotOk n X Y ∧ TotOk m (fun i => X (n + i)) (fun i => Y (n + i)) := by
    intro n m X Y q
    exact ⟨⟨by have := q.1; omega, fun i hi => q.2 i (by omega)⟩, ⟨by have := q.1; omega, fun i hi => q.2 (n + i) (by omega)⟩⟩
  by_cases hkc : k < cap
  · rcases h with ⟨h0, h0'⟩ | ⟨b, off, rfl, hl, hcap, hc, _⟩
    · omega
    · obtain ⟨m, rfl⟩ : ∃ m, len = k + m := ⟨len - k, by omega⟩
      refine core b off (k + m) cap k X Y _ _ (totX k X Y) (totY k X Y) (totX (k + m - k) (fun i => X (k + i)) (fun i => Y (k + i))) (totY (k + m - k) (fun i => X (k + i)) (fun i => Y (k + i))) _ (totB k X Y) (totB (k + m - k) (fun i => X (k + i)) (fun i => Y (k + i))) w (by omega) hk hl hcap hkc hr
        ⟨(bd _ _ _).1, (bd _ _ _).2, (bd _ _ _).1, (bd _ _ _).2⟩ ?_ (Lib.hid (T _ _ _ _)) (Lib.hid R) (Lib.hid (T _ _ _ _)) (Lib.hid (T _ _ _ _))
      rw [show k + m - k = m from by omega]
      by_cases q : TotOk (k + m) X Y
      · obtain ⟨q1, q2⟩ := all k m X Y q
        rw [(tot_yes q).1, (tot_yes q).2.1, (tot_yes q).2.2, (tot_yes q1).1, (tot_yes q1).2.1, (tot_yes q1).2.2, (tot_yes q2).1, (tot_yes q2).2.1, (tot_yes q2).2.2, sm_split X k m, sm_split Y k m]
        exact Or.inr ⟨rfl, rfl, rfl, by simp, by simp⟩
      · rw [(tot_no q).1, (tot_no q).2.1, (tot_no q).2.2]
        exact Or.inl ⟨rfl, rfl, rfl⟩
  · have hl : len ≤ cap := by
      rcases h with ⟨h0, h0'⟩ | ⟨b, off, rfl, hl, _⟩
      · omega
      · exact hl
    have e1 : k = len := by omega
    subst e1
    have e2 : k = cap := by omega
    subst e2
    have z : TotOk 0 X Y := ⟨by omega, fun i hi => by omega⟩
    refine edge a k X Y _ _ (totX k X Y) (totY k X Y) (totX 0 X Y) (totY 0 X Y) _ (totB k X Y) (totB 0 X Y) w (by omega) hr.1 hr
      ⟨(bd _ _ _).1, (bd _ _ _).2, (bd _ _ _).1, (bd _ _ _).2⟩ ?_ (Lib.hid (T _ _ _ _)) (Lib.hid R) (Lib.hid (T _ _ _ _)) (Lib.hid (T _ _ _ _))
    rw [(tot_yes z).1, (tot_yes z).2.1, (tot_yes z).2.2]
    by_cases q : TotOk k X Y
    · rw [(tot_yes q).1, (tot_yes q).2.1, (tot_yes q).2.2]
      exact Or.inr ⟨rfl, rfl, rfl, by simp [sm], by simp [sm]⟩
    · rw [(tot_no q).1, (tot_no q).2.1, (tot_no q).2.2]
      exact Or.inl ⟨rfl, rfl, rfl⟩
end Go.Proofs.Ythjlilepialmoaa.satTotals
