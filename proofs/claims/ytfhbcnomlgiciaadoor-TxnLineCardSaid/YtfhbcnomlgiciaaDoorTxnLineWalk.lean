/- The walk of hopperlaw04.TxnLine. -/
import Derived.Test.YtfhbcnomlgiciaaDoorTxnOpen
namespace Go.Proofs.YtfhbcnomlgiciaaDoor.txnLine
open Go.RowKit Go.ChangeShapes Go.WideShapes codec txn
set_option linter.unusedVariables false
set_option linter.unusedSimpArgs false

theorem less_asym (x y : List UInt8) (h : Op.bytesLess x y = true) : Op.bytesLess y x = false := by
  induction x generalizing y with
  | nil =>
    cases y with
    | nil => rfl
    | cons d y => rfl
  | cons c x ih =>
    cases y with
    | nil => cases h
    | cons d y =>
      rw [less_cons] at h ⊢
      by_cases e : c = d
      · subst e
        simp at h ⊢
        exact ih y h
      · have e' : ¬ d = c := fun q => e q.symm
        simp [e, e', UInt8.lt_iff_toNat_lt] at h ⊢
        omega
theorem less_tri (x y : List UInt8) (h : x ≠ y) : Op.bytesLess x y = true ∨ Op.bytesLess y x = true := by
  induction x generalizing y with
  | nil =>
    cases y with
    | nil => exact absurd rfl h
    | cons d y => exact Or.inl rfl
  | cons c x ih =>
    cases y with
    | nil => exact Or.inr rfl
    | cons d y =>
      rw [less_cons, less_cons]
      by_cases e : c = d
      · subst e
        simp
        exact ih y (fun q => h (by rw [q]))
      · have e' : ¬ d = c := fun q => e q.symm
        have e2 : c.toNat ≠ d.toNat := fun q => e (UInt8.toNat_inj.1 q)
        simp [e, e', UInt8.lt_iff_toNat_lt]
        omega
theorem less_trans (x y z : List UInt8) (h1 : Op.bytesLess x y = true) (h2 : Op.bytesLess y z = true) : Op.bytesLess x z = true := by
  induction x generalizing y z with
  | nil =>
    cases z with
    | nil =>
      cases y with
      | nil => cases h1
      | cons d y => cases h2
    | cons e z => rfl
  | cons c x ih =>
    cases y with
    | nil => cases h1
    | cons d y =>
      cases z with
      | nil => cases h2
      | cons e z =>
        rw [less_cons] at h1 h2 ⊢
        by_cases q1 : c = d
        · subst q1
          by_cases q2 : c = e
          · subst q2
            simp at h1 h2 ⊢
            exact ih y z h1 h2
          · simp [q2] at h2 ⊢
            exact h2
        · by_cases q2 : d = e
          · subst q2
            simp [q1] at h1 ⊢
            exact h1
          · simp [q1, q2, UInt8.lt_iff_toNat_lt] at h1 h2 ⊢
            left
            omega
theorem better_iff (a b : Tx) : betterV a b = true ↔ b.t < a.t ∨ (a.t = b.t ∧ (Op.bytesLess (idV a) (idV b) = true ∨ (idV a = idV b ∧ (a.s < b.s ∨ (a.s = b.s ∧ a.n < b.n))))) := by
  unfold betterV
  have irr : ∀ l, Op.bytesLess l l = false := less_self
  by_cases h1 : a.t = b.t
  · rw [if_neg (by simpa using h1)]
    by_cases h2 : idV a = idV b
    · rw [if_neg (by simpa using h2)]
      by_cases h3 : a.s = b.s
      · rw [if_neg (by simpa using h3)]
        simp [h1, h2, h3, irr]
      · rw [if_pos h3]
        simp [h1, h2, h3, irr]
    · rw [if_pos h2]
      simp [h1, h2]
  · rw [if_pos h1]
    simp [h1]
theorem better_self (a : Tx) : betterV a a = false := by
  cases h : betterV a a with
  | false => rfl
  | true =>
    rw [better_iff] at h
    have := less_self (idV a)
    rcases h with h | ⟨_, h | ⟨_, h | ⟨_, h⟩⟩⟩
    · omega
    · rw [this] at h; cases h
    · omega
    · omega
theorem better_asym (a b : Tx) (h : betterV a b = true) : betterV b a = false := by
  cases h2 : betterV b a with
  | false => rfl
  | true =>
    exfalso
    rw [better_iff] at h h2
    rcases h with h | ⟨e, h⟩
    · rcases h2 with h2 | ⟨e2, _⟩ <;> omega
    · rcases h2 with h2 | ⟨_, h2⟩
      · omega
      · rcases h with h | ⟨e3, h⟩
        · rcases h2 with h2 | ⟨e4, _⟩
          · rw [less_asym _ _ h] at h2; cases h2
          · rw [e4, less_self] at h; cases h
        · rcases h2 with h2 | ⟨_, h2⟩
          · rw [e3, less_self] at h2; cases h2
          · omega
theorem better_total (a b : Tx) (h : a.s ≠ b.s ∨ a.n ≠ b.n) (h1 : betterV a b = false) : betterV b a = true := by
  rw [better_iff]
  have n1 : ¬ betterV a b = true := by rw [h1]; simp
  rw [better_iff] at n1
  by_cases e : a.t = b.t
  · by_cases e2 : idV a = idV b
    · refine Or.inr ⟨e.symm, Or.inr ⟨e2.symm, ?_⟩⟩
      have n2 : ¬ (a.s < b.s ∨ a.s = b.s ∧ a.n < b.n) := fun q => n1 (Or.inr ⟨e, Or.inr ⟨e2, q⟩⟩)
      omega
    · refine Or.inr ⟨e.symm, Or.inl ?_⟩
      rcases less_tri _ _ e2 with q | q
      · exact absurd (Or.inr ⟨e, Or.inl q⟩) n1
      · exact q
  · left
    have n2 : ¬ b.t < a.t := fun q => n1 (Or.inl q)
    omega
theorem better_trans (a b c : Tx) (h1 : betterV a b = true) (h2 : betterV b c = true) : betterV a c = true := by
  rw [better_iff] at h1 h2 ⊢
  rcases h1 with h1 | ⟨e1, h1⟩
  · left
    rcases h2 with h2 | ⟨e2, _⟩ <;> omega
  · rcases h2 with h2 | ⟨e2, h2⟩
    · left; omega
    · right
      refine ⟨by omega, ?_⟩
      rcases h1 with h1 | ⟨f1, h1⟩
      · left
        rcases h2 with h2 | ⟨f2, _⟩
        · exact less_trans _ _ _ h1 h2
        · rwa [← f2]
      · rcases h2 with h2 | ⟨f2, h2⟩
        · left; rwa [f1]
        · right
          exact ⟨f1.trans f2, by omega⟩
theorem better_tip (a b : Tx) (h : betterV a b = false) : a.t ≤ b.t := by
  have n1 : ¬ betterV a b = true := by rw [h]; simp
  rw [better_iff] at n1
  have : ¬ b.t < a.t := fun q => n1 (Or.inl q)
  omega

theorem three_boxes (a b c : Tx) (w : World) (hM : Most w) : ∃ W, W = ((w.alloc (.cells #[.int .i64 a.s, .int .i64 a.n, .int .i64 a.t, .int .i64 a.c, .int .i64 a.g, .string a.d] 23 (0, 0))).alloc (.cells #[.int .i64 b.s, .int .i64 b.n, .int .i64 b.t, .int .i64 b.c, .int .i64 b.g, .string b.d] 23 (0, 0))).alloc (.cells #[.int .i64 c.s, .int .i64 c.n, .int .i64 c.t, .int .i64 c.c, .int .i64 c.g, .string c.d] 23 (0, 0)) ∧
    Box W w.heap.size a ∧ Box W (w.heap.size + 1) b ∧ Box W (w.heap.size + 2) c ∧ Most W ∧ Below w.heap.size w W := by
  have hb : Below w.heap.size w (((w.alloc (.cells #[.int .i64 a.s, .int .i64 a.n, .int .i64 a.t, .int .i64 a.c, .int .i64 a.g, .string a.d] 23 (0, 0))).alloc (.cells #[.int .i64 b.s, .int .i64 b.n, .int .i64 b.t, .int .i64 b.c, .int .i64 b.g, .string b.d] 23 (0, 0))).alloc (.cells #[.int .i64 c.s, .int .i64 c.n, .int .i64 c.t, .int .i64 c.c, .int .i64 c.g, .string c.d] 23 (0, 0))) := laid (laid (laid (Below.refl _ _) _) _) _
  have s1 : ∀ (w : World) (o : Obj), (w.alloc o).heap.size = w.heap.size + 1 := fun w o => by show (w.heap.push _).size = _; simp
  refine ⟨_, rfl, ?_, ?_, ?_, hM.later hb, hb⟩
  · exact ((Box.own w a 23).later (laid (Below.refl _ _) _)).later (laid (Below.refl _ _) _)
  · have h := Box.own (w.alloc (.cells #[.int .i64 a.s, .int .i64 a.n, .int .i64 a.t, .int .i64 a.c, .int .i64 a.g, .string a.d] 23 (0, 0))) b 23
    rw [s1] at h
    exact h.later (laid (Below.refl _ _) _)
  · have h := Box.own ((w.alloc (.cells #[.int .i64 a.s, .int .i64 a.n, .int .i64 a.t, .int .i64 a.c, .int .i64 a.g, .string a.d] 23 (0, 0))).alloc (.cells #[.int .i64 b.s, .int .i64 b.n, .int .i64 b.t, .int .i64 b.c, .int .i64 b.g, .string b.d] 23 (0, 0))) c 23
    rw [s1, s1] at h
    exact h

set_option maxHeartbeats 8000000 in
theorem walk (a b c : Tx) (w : World) (hM : Most w) (fa : a.fine) (fb : b.fine) (fc : c.fine) :
    Calls Tryd.prog 6 #[a.val, b.val, c.val] w fun e w' => e = .returned (.bool true) ∧ Below w.heap.size w w' := by
  obtain ⟨w0, hw0, BA, BB, BC, hM0, hbel⟩ := three_boxes a b c w hM
  have da := fa.2.2.2.2.2
  have db := fb.2.2.2.2.2
  have dc := fc.2.2.2.2.2
  have SA := Lib.hid (fun w => small a w da)
  have SB := Lib.hid (fun w => small b w db)
  have SC := Lib.hid (fun w => small c w dc)
  have AB := Lib.hid (fun w hM => better a b w hM da db)
  have BAx := Lib.hid (fun w hM => better b a w hM db da)
  have AA := Lib.hid (fun w hM => better a a w hM da da)
  have BCx := Lib.hid (fun w hM => better b c w hM db dc)
  have AC := Lib.hid (fun w hM => better a c w hM da dc)
  rw [better_self] at AA
  have D : (betterV a b = true ∧ betterV b a = false ∧ (betterV b c = false ∨ (betterV b c = true ∧ betterV a c = true)) ∧ (decide (a.t ≤ b.t) = true ∨ decide (a.t ≤ b.t) = false) ∧ ((a.s != b.s) = true ∨ ((a.s != b.s) = false ∧ (a.n != b.n) = true) ∨ ((a.s != b.s) = false ∧ (a.n != b.n) = false))) ∨
      (betterV a b = false ∧ decide (a.t ≤ b.t) = true ∧ ((betterV b a = true ∧ ((a.s != b.s) = true ∨ ((a.s != b.s) = false ∧ (a.n != b.n) = true) ∨ ((a.s != b.s) = false ∧ (a.n != b.n) = false))) ∨ (betterV b a = false ∧ (a.s != b.s) = false ∧ (a.n != b.n) = false))) := by
    have P : (a.s != b.s) = true ∨ ((a.s != b.s) = false ∧ (a.n != b.n) = true) ∨ ((a.s != b.s) = false ∧ (a.n != b.n) = false) := by
      cases (a.s != b.s) <;> cases (a.n != b.n) <;> simp
    cases h1 : betterV a b with
    | true =>
      refine Or.inl ⟨rfl, better_asym _ _ h1, ?_, by cases decide (a.t ≤ b.t) <;> simp, P⟩
      cases h2 : betterV b c with
      | false => exact Or.inl rfl
      | true => exact Or.inr ⟨rfl, better_trans _ _ _ h1 h2⟩
    | false =>
      refine Or.inr ⟨rfl, decide_eq_true (better_tip _ _ h1), ?_⟩
      cases h2 : betterV b a with
      | true => exact Or.inl ⟨rfl, P⟩
      | false =>
        refine Or.inr ⟨rfl, ?_⟩
        by_cases q1 : a.s = b.s
        · by_cases q2 : a.n = b.n
          · exact ⟨by simpa using q1, by simpa using q2⟩
          · have := better_total a b (Or.inr q2) h1
            rw [h2] at this; cases this
        · have := better_total a b (Or.inl q1) h1
          rw [h2] at this; cases this
  generalize betterV a b = X at AB D
  generalize betterV b a = Y at BAx D
  generalize betterV b c = U at BCx D
  generalize betterV a c = V at AC D
  obtain ⟨az, an, ap, ac, ag, ad⟩ := a
  obtain ⟨bz, bn, bp, bc, bg, bd⟩ := b
  obtain ⟨cz, cn, cp, cc, cg, cd⟩ := c
  simp only [Tx.val] at SA SB SC AB BAx AA BCx AC ⊢
  simp only [] at hw0 D da db dc
  have E : (decide (ad.size ≤ 500) = false) ∨ (decide (ad.size ≤ 500) = true ∧ decide (bd.size ≤ 500) = false) ∨ (decide (ad.size ≤ 500) = true ∧ decide (bd.size ≤ 500) = true ∧ decide (cd.size ≤ 500) = false) ∨ (decide (ad.size ≤ 500) = true ∧ decide (bd.size ≤ 500) = true ∧ decide (cd.size ≤ 500) = true) := by
    cases decide (ad.size ≤ 500) <;> cases decide (bd.size ≤ 500) <;> cases decide (cd.size ≤ 500) <;> simp
  have hM := hM0
  clear fa fb fc da db dc hM0
  rcases E with e1 | ⟨e1, e2⟩ | ⟨e1, e2, e3⟩ | ⟨e1, e2, e3⟩
  · rw [e1] at SA; clear D
    go_enter Tryd.func6, Tryd.ntmps6
    go_wp2_with fail
    rw [← hw0]
    clear hw0
    refine (SA.out _).mono ?_
    rintro e w1 ⟨rfl, hb1⟩
    have BA := BA.later hb1
    have BB := BB.later hb1
    have BC := BC.later hb1
    have hM := hM.later hb1
    have hbel := later hbel hb1
    clear hb1
    obtain ⟨p0, p1, p2, p3, p4, p5, _⟩ := _root_.id BA
    obtain ⟨q0, q1, q2, q3, q4, q5, _⟩ := _root_.id BB
    obtain ⟨r0, r1, r2, r3, r4, r5, _⟩ := _root_.id BC
    simp only [] at p0 p1 p2 p3 p4 p5 q0 q1 q2 q3 q4 q5 r0 r1 r2 r3 r4 r5
    go_wp2_with fail
    clear p0 p1 p2 p3 p4 p5 q0 q1 q2 q3 q4 q5 r0 r1 r2 r3 r4 r5
    refine (live_true _ hM).mono ?_
    rintro e w2 ⟨rfl, hb1⟩
    have BA := BA.later hb1
    have BB := BB.later hb1
    have BC := BC.later hb1
    have hM := hM.later hb1
    have hbel := later hbel hb1
    clear hb1
    obtain ⟨p0, p1, p2, p3, p4, p5, _⟩ := _root_.id BA
    obtain ⟨q0, q1, q2, q3, q4, q5, _⟩ := _root_.id BB
    obtain ⟨r0, r1, r2, r3, r4, r5, _⟩ := _root_.id BC
    simp only [] at p0 p1 p2 p3 p4 p5 q0 q1 q2 q3 q4 q5 r0 r1 r2 r3 r4 r5
    go_wp2_with fail
    clear p0 p1 p2 p3 p4 p5 q0 q1 q2 q3 q4 q5 r0 r1 r2 r3 r4 r5
    go_ret
    exact ⟨rfl, hbel⟩
  · rw [e1] at SA; rw [e2] at SB; clear D
    go_enter Tryd.func6, Tryd.ntmps6
    go_wp2_with fail
    rw [← hw0]
    clear hw0
    refine (SA.out _).mono ?_
    rintro e w1 ⟨rfl, hb1⟩
    have BA := BA.later hb1
    have BB := BB.later hb1
    have BC := BC.later hb1
    have hM := hM.later hb1
    have hbel := later hbel hb1
    clear hb1
    obtain ⟨p0, p1, p2, p3, p4, p5, _⟩ := _root_.id BA
    obtain ⟨q0, q1, q2, q3, q4, q5, _⟩ := _root_.id BB
    obtain ⟨r0, r1, r2, r3, r4, r5, _⟩ := _root_.id BC
    simp only [] at p0 p1 p2 p3 p4 p5 q0 q1 q2 q3 q4 q5 r0 r1 r2 r3 r4 r5
    go_wp2_with fail
    clear p0 p1 p2 p3 p4 p5 q0 q1 q2 q3 q4 q5 r0 r1 r2 r3 r4 r5
    refine (SB.out _).mono ?_
    rintro e w2 ⟨rfl, hb1⟩
    have BA := BA.later hb1
    have BB := BB.later hb1
    have BC := BC.later hb1
    have hM := hM.later hb1
    have hbel := later hbel hb1
    clear hb1
    obtain ⟨p0, p1, p2, p3, p4, p5, _⟩ := _root_.id BA
    obtain ⟨q0, q1, q2, q3, q4, q5, _⟩ := _root_.id BB
    obtain ⟨r0, r1, r2, r3, r4, r5, _⟩ := _root_.id BC
    simp only [] at p0 p1 p2 p3 p4 p5 q0 q1 q2 q3 q4 q5 r0 r1 r2 r3 r4 r5
    go_wp2_with fail
    clear p0 p1 p2 p3 p4 p5 q0 q1 q2 q3 q4 q5 r0 r1 r2 r3 r4 r5
    refine (live_true _ hM).mono ?_
    rintro e w3 ⟨rfl, hb1⟩
    have BA := BA.later hb1
    have BB := BB.later hb1
    have BC := BC.later hb1
    have hM := hM.later hb1
    have hbel := later hbel hb1
    clear hb1
    obtain ⟨p0, p1, p2, p3, p4, p5, _⟩ := _root_.id BA
    obtain ⟨q0, q1, q2, q3, q4, q5, _⟩ := _root_.id BB
    obtain ⟨r0, r1, r2, r3, r4, r5, _⟩ := _root_.id BC
    simp only [] at p0 p1 p2 p3 p4 p5 q0 q1 q2 q3 q4 q5 r0 r1 r2 r3 r4 r5
    go_wp2_with fail
    clear p0 p1 p2 p3 p4 p5 q0 q1 q2 q3 q4 q5 r0 r1 r2 r3 r4 r5
    go_ret
    exact ⟨rfl, hbel⟩
  · rw [e1] at SA; rw [e2] at SB; rw [e3] at SC; clear D
    go_enter Tryd.func6, Tryd.ntmps6
    go_wp2_with fail
    rw [← hw0]
    clear hw0
    refine (SA.out _).mono ?_
    rintro e w1 ⟨rfl, hb1⟩
    have BA := BA.later hb1
    have BB := BB.later hb1
    have BC := BC.later hb1
    have hM := hM.later hb1
    have hbel := later hbel hb1
    clear hb1
    obtain ⟨p0, p1, p2, p3, p4, p5, _⟩ := _root_.id BA
    obtain ⟨q0, q1, q2, q3, q4, q5, _⟩ := _root_.id BB
    obtain ⟨r0, r1, r2, r3, r4, r5, _⟩ := _root_.id BC
    simp only [] at p0 p1 p2 p3 p4 p5 q0 q1 q2 q3 q4 q5 r0 r1 r2 r3 r4 r5
    go_wp2_with fail
    clear p0 p1 p2 p3 p4 p5 q0 q1 q2 q3 q4 q5 r0 r1 r2 r3 r4 r5
    refine (SB.out _).mono ?_
    rintro e w2 ⟨rfl, hb1⟩
    have BA := BA.later hb1
    have BB := BB.later hb1
    have BC := BC.later hb1
    have hM := hM.later hb1
    have hbel := later hbel hb1
    clear hb1
    obtain ⟨p0, p1, p2, p3, p4, p5, _⟩ := _root_.id BA
    obtain ⟨q0, q1, q2, q3, q4, q5, _⟩ := _root_.id BB
    obtain ⟨r0, r1, r2, r3, r4, r5, _⟩ := _root_.id BC
    simp only [] at p0 p1 p2 p3 p4 p5 q0 q1 q2 q3 q4 q5 r0 r1 r2 r3 r4 r5
    go_wp2_with fail
    clear p0 p1 p2 p3 p4 p5 q0 q1 q2 q3 q4 q5 r0 r1 r2 r3 r4 r5
    refine (SC.out _).mono ?_
    rintro e w3 ⟨rfl, hb1⟩
    have BA := BA.later hb1
    have BB := BB.later hb1
    have BC := BC.later hb1
    have hM := hM.later hb1
    have hbel := later hbel hb1
    clear hb1
    obtain ⟨p0, p1, p2, p3, p4, p5, _⟩ := _root_.id BA
    obtain ⟨q0, q1, q2, q3, q4, q5, _⟩ := _root_.id BB
    obtain ⟨r0, r1, r2, r3, r4, r5, _⟩ := _root_.id BC
    simp only [] at p0 p1 p2 p3 p4 p5 q0 q1 q2 q3 q4 q5 r0 r1 r2 r3 r4 r5
    go_wp2_with fail
    clear p0 p1 p2 p3 p4 p5 q0 q1 q2 q3 q4 q5 r0 r1 r2 r3 r4 r5
    refine (live_true _ hM).mono ?_
    rintro e w4 ⟨rfl, hb1⟩
    have BA := BA.later hb1
    have BB := BB.later hb1
    have BC := BC.later hb1
    have hM := hM.later hb1
    have hbel := later hbel hb1
    clear hb1
    obtain ⟨p0, p1, p2, p3, p4, p5, _⟩ := _root_.id BA
    obtain ⟨q0, q1, q2, q3, q4, q5, _⟩ := _root_.id BB
    obtain ⟨r0, r1, r2, r3, r4, r5, _⟩ := _root_.id BC
    simp only [] at p0 p1 p2 p3 p4 p5 q0 q1 q2 q3 q4 q5 r0 r1 r2 r3 r4 r5
    go_wp2_with fail
    clear p0 p1 p2 p3 p4 p5 q0 q1 q2 q3 q4 q5 r0 r1 r2 r3 r4 r5
    go_ret
    exact ⟨rfl, hbel⟩
  · rw [e1] at SA; rw [e2] at SB; rw [e3] at SC
    rcases D with ⟨rfl, rfl, hU, hL, hP⟩ | ⟨rfl, hL, ⟨rfl, hP⟩ | ⟨rfl, p1, p2⟩⟩
    · rcases hU with rfl | ⟨rfl, rfl⟩
      · rcases hL with l1 | l1 <;> rcases hP with p1 | ⟨p1, p2⟩ | ⟨p1, p2⟩
        all_goals
          go_enter Tryd.func6, Tryd.ntmps6
          go_wp2_with fail
          rw [← hw0]
          clear hw0
          refine (SA.out _).mono ?_
          rintro e w1 ⟨rfl, hb1⟩
          have BA := BA.later hb1
          have BB := BB.later hb1
          have BC := BC.later hb1
          have hM := hM.later hb1
          have hbel := later hbel hb1
          clear hb1
          obtain ⟨p0, p1, p2, p3, p4, p5, _⟩ := _root_.id BA
          obtain ⟨q0, q1, q2, q3, q4, q5, _⟩ := _root_.id BB
          obtain ⟨r0, r1, r2, r3, r4, r5, _⟩ := _root_.id BC
          simp only [] at p0 p1 p2 p3 p4 p5 q0 q1 q2 q3 q4 q5 r0 r1 r2 r3 r4 r5
          go_wp2_with fail
          clear p0 p1 p2 p3 p4 p5 q0 q1 q2 q3 q4 q5 r0 r1 r2 r3 r4 r5
          refine (SB.out _).mono ?_
          rintro e w2 ⟨rfl, hb1⟩
          have BA := BA.later hb1
          have BB := BB.later hb1
          have BC := BC.later hb1
          have hM := hM.later hb1
          have hbel := later hbel hb1
          clear hb1
          obtain ⟨p0, p1, p2, p3, p4, p5, _⟩ := _root_.id BA
          obtain ⟨q0, q1, q2, q3, q4, q5, _⟩ := _root_.id BB
          obtain ⟨r0, r1, r2, r3, r4, r5, _⟩ := _root_.id BC
          simp only [] at p0 p1 p2 p3 p4 p5 q0 q1 q2 q3 q4 q5 r0 r1 r2 r3 r4 r5
          go_wp2_with fail
          clear p0 p1 p2 p3 p4 p5 q0 q1 q2 q3 q4 q5 r0 r1 r2 r3 r4 r5
          refine (SC.out _).mono ?_
          rintro e w3 ⟨rfl, hb1⟩
          have BA := BA.later hb1
          have BB := BB.later hb1
          have BC := BC.later hb1
          have hM := hM.later hb1
          have hbel := later hbel hb1
          clear hb1
          obtain ⟨p0, p1, p2, p3, p4, p5, _⟩ := _root_.id BA
          obtain ⟨q0, q1, q2, q3, q4, q5, _⟩ := _root_.id BB
          obtain ⟨r0, r1, r2, r3, r4, r5, _⟩ := _root_.id BC
          simp only [] at p0 p1 p2 p3 p4 p5 q0 q1 q2 q3 q4 q5 r0 r1 r2 r3 r4 r5
          go_wp2_with fail
          clear p0 p1 p2 p3 p4 p5 q0 q1 q2 q3 q4 q5 r0 r1 r2 r3 r4 r5
          refine (AB.out _ hM).mono ?_
          rintro e w4 ⟨rfl, hb1⟩
          have BA := BA.later hb1
          have BB := BB.later hb1
          have BC := BC.later hb1
          have hM := hM.later hb1
          have hbel := later hbel hb1
          clear hb1
          obtain ⟨p0, p1, p2, p3, p4, p5, _⟩ := _root_.id BA
          obtain ⟨q0, q1, q2, q3, q4, q5, _⟩ := _root_.id BB
          obtain ⟨r0, r1, r2, r3, r4, r5, _⟩ := _root_.id BC
          simp only [] at p0 p1 p2 p3 p4 p5 q0 q1 q2 q3 q4 q5 r0 r1 r2 r3 r4 r5
          go_wp2_with fail
          clear p0 p1 p2 p3 p4 p5 q0 q1 q2 q3 q4 q5 r0 r1 r2 r3 r4 r5
          refine (BAx.out _ hM).mono ?_
          rintro e w5 ⟨rfl, hb1⟩
          have BA := BA.later hb1
          have BB := BB.later hb1
          have BC := BC.later hb1
          have hM := hM.later hb1
          have hbel := later hbel hb1
          clear hb1
          obtain ⟨p0, p1, p2, p3, p4, p5, _⟩ := _root_.id BA
          obtain ⟨q0, q1, q2, q3, q4, q5, _⟩ := _root_.id BB
          obtain ⟨r0, r1, r2, r3, r4, r5, _⟩ := _root_.id BC
          simp only [] at p0 p1 p2 p3 p4 p5 q0 q1 q2 q3 q4 q5 r0 r1 r2 r3 r4 r5
          go_wp2_with fail
          clear p0 p1 p2 p3 p4 p5 q0 q1 q2 q3 q4 q5 r0 r1 r2 r3 r4 r5
          refine (AA.out _ hM).mono ?_
          rintro e w6 ⟨rfl, hb1⟩
          have BA := BA.later hb1
          have BB := BB.later hb1
          have BC := BC.later hb1
          have hM := hM.later hb1
          have hbel := later hbel hb1
          clear hb1
          obtain ⟨p0, p1, p2, p3, p4, p5, _⟩ := _root_.id BA
          obtain ⟨q0, q1, q2, q3, q4, q5, _⟩ := _root_.id BB
          obtain ⟨r0, r1, r2, r3, r4, r5, _⟩ := _root_.id BC
          simp only [] at p0 p1 p2 p3 p4 p5 q0 q1 q2 q3 q4 q5 r0 r1 r2 r3 r4 r5
          go_wp2_with fail
          clear p0 p1 p2 p3 p4 p5 q0 q1 q2 q3 q4 q5 r0 r1 r2 r3 r4 r5
          refine (BCx.out _ hM).mono ?_
          rintro e w7 ⟨rfl, hb1⟩
          have BA := BA.later hb1
          have BB := BB.later hb1
          have BC := BC.later hb1
          have hM := hM.later hb1
          have hbel := later hbel hb1
          clear hb1
          obtain ⟨p0, p1, p2, p3, p4, p5, _⟩ := _root_.id BA
          obtain ⟨q0, q1, q2, q3, q4, q5, _⟩ := _root_.id BB
          obtain ⟨r0, r1, r2, r3, r4, r5, _⟩ := _root_.id BC
          simp only [] at p0 p1 p2 p3 p4 p5 q0 q1 q2 q3 q4 q5 r0 r1 r2 r3 r4 r5
          go_wp2_with fail
          clear p0 p1 p2 p3 p4 p5 q0 q1 q2 q3 q4 q5 r0 r1 r2 r3 r4 r5
          refine (live_true _ hM).mono ?_
          rintro e w8 ⟨rfl, hb1⟩
          have BA := BA.later hb1
          have BB := BB.later hb1
          have BC := BC.later hb1
          have hM := hM.later hb1
          have hbel := later hbel hb1
          clear hb1
          obtain ⟨p0, p1, p2, p3, p4, p5, _⟩ := _root_.id BA
          obtain ⟨q0, q1, q2, q3, q4, q5, _⟩ := _root_.id BB
          obtain ⟨r0, r1, r2, r3, r4, r5, _⟩ := _root_.id BC
          simp only [] at p0 p1 p2 p3 p4 p5 q0 q1 q2 q3 q4 q5 r0 r1 r2 r3 r4 r5
          go_wp2_with fail
          clear p0 p1 p2 p3 p4 p5 q0 q1 q2 q3 q4 q5 r0 r1 r2 r3 r4 r5
          go_ret
          exact ⟨rfl, hbel⟩
      · rcases hL with l1 | l1 <;> rcases hP with p1 | ⟨p1, p2⟩ | ⟨p1, p2⟩
        all_goals
          go_enter Tryd.func6, Tryd.ntmps6
          go_wp2_with fail
          rw [← hw0]
          clear hw0
          refine (SA.out _).mono ?_
          rintro e w1 ⟨rfl, hb1⟩
          have BA := BA.later hb1
          have BB := BB.later hb1
          have BC := BC.later hb1
          have hM := hM.later hb1
          have hbel := later hbel hb1
          clear hb1
          obtain ⟨p0, p1, p2, p3, p4, p5, _⟩ := _root_.id BA
          obtain ⟨q0, q1, q2, q3, q4, q5, _⟩ := _root_.id BB
          obtain ⟨r0, r1, r2, r3, r4, r5, _⟩ := _root_.id BC
          simp only [] at p0 p1 p2 p3 p4 p5 q0 q1 q2 q3 q4 q5 r0 r1 r2 r3 r4 r5
          go_wp2_with fail
          clear p0 p1 p2 p3 p4 p5 q0 q1 q2 q3 q4 q5 r0 r1 r2 r3 r4 r5
          refine (SB.out _).mono ?_
          rintro e w2 ⟨rfl, hb1⟩
          have BA := BA.later hb1
          have BB := BB.later hb1
          have BC := BC.later hb1
          have hM := hM.later hb1
          have hbel := later hbel hb1
          clear hb1
          obtain ⟨p0, p1, p2, p3, p4, p5, _⟩ := _root_.id BA
          obtain ⟨q0, q1, q2, q3, q4, q5, _⟩ := _root_.id BB
          obtain ⟨r0, r1, r2, r3, r4, r5, _⟩ := _root_.id BC
          simp only [] at p0 p1 p2 p3 p4 p5 q0 q1 q2 q3 q4 q5 r0 r1 r2 r3 r4 r5
          go_wp2_with fail
          clear p0 p1 p2 p3 p4 p5 q0 q1 q2 q3 q4 q5 r0 r1 r2 r3 r4 r5
          refine (SC.out _).mono ?_
          rintro e w3 ⟨rfl, hb1⟩
          have BA := BA.later hb1
          have BB := BB.later hb1
          have BC := BC.later hb1
          have hM := hM.later hb1
          have hbel := later hbel hb1
          clear hb1
          obtain ⟨p0, p1, p2, p3, p4, p5, _⟩ := _root_.id BA
          obtain ⟨q0, q1, q2, q3, q4, q5, _⟩ := _root_.id BB
          obtain ⟨r0, r1, r2, r3, r4, r5, _⟩ := _root_.id BC
          simp only [] at p0 p1 p2 p3 p4 p5 q0 q1 q2 q3 q4 q5 r0 r1 r2 r3 r4 r5
          go_wp2_with fail
          clear p0 p1 p2 p3 p4 p5 q0 q1 q2 q3 q4 q5 r0 r1 r2 r3 r4 r5
          refine (AB.out _ hM).mono ?_
          rintro e w4 ⟨rfl, hb1⟩
          have BA := BA.later hb1
          have BB := BB.later hb1
          have BC := BC.later hb1
          have hM := hM.later hb1
          have hbel := later hbel hb1
          clear hb1
          obtain ⟨p0, p1, p2, p3, p4, p5, _⟩ := _root_.id BA
          obtain ⟨q0, q1, q2, q3, q4, q5, _⟩ := _root_.id BB
          obtain ⟨r0, r1, r2, r3, r4, r5, _⟩ := _root_.id BC
          simp only [] at p0 p1 p2 p3 p4 p5 q0 q1 q2 q3 q4 q5 r0 r1 r2 r3 r4 r5
          go_wp2_with fail
          clear p0 p1 p2 p3 p4 p5 q0 q1 q2 q3 q4 q5 r0 r1 r2 r3 r4 r5
          refine (BAx.out _ hM).mono ?_
          rintro e w5 ⟨rfl, hb1⟩
          have BA := BA.later hb1
          have BB := BB.later hb1
          have BC := BC.later hb1
          have hM := hM.later hb1
          have hbel := later hbel hb1
          clear hb1
          obtain ⟨p0, p1, p2, p3, p4, p5, _⟩ := _root_.id BA
          obtain ⟨q0, q1, q2, q3, q4, q5, _⟩ := _root_.id BB
          obtain ⟨r0, r1, r2, r3, r4, r5, _⟩ := _root_.id BC
          simp only [] at p0 p1 p2 p3 p4 p5 q0 q1 q2 q3 q4 q5 r0 r1 r2 r3 r4 r5
          go_wp2_with fail
          clear p0 p1 p2 p3 p4 p5 q0 q1 q2 q3 q4 q5 r0 r1 r2 r3 r4 r5
          refine (AA.out _ hM).mono ?_
          rintro e w6 ⟨rfl, hb1⟩
          have BA := BA.later hb1
          have BB := BB.later hb1
          have BC := BC.later hb1
          have hM := hM.later hb1
          have hbel := later hbel hb1
          clear hb1
          obtain ⟨p0, p1, p2, p3, p4, p5, _⟩ := _root_.id BA
          obtain ⟨q0, q1, q2, q3, q4, q5, _⟩ := _root_.id BB
          obtain ⟨r0, r1, r2, r3, r4, r5, _⟩ := _root_.id BC
          simp only [] at p0 p1 p2 p3 p4 p5 q0 q1 q2 q3 q4 q5 r0 r1 r2 r3 r4 r5
          go_wp2_with fail
          clear p0 p1 p2 p3 p4 p5 q0 q1 q2 q3 q4 q5 r0 r1 r2 r3 r4 r5
          refine (BCx.out _ hM).mono ?_
          rintro e w7 ⟨rfl, hb1⟩
          have BA := BA.later hb1
          have BB := BB.later hb1
          have BC := BC.later hb1
          have hM := hM.later hb1
          have hbel := later hbel hb1
          clear hb1
          obtain ⟨p0, p1, p2, p3, p4, p5, _⟩ := _root_.id BA
          obtain ⟨q0, q1, q2, q3, q4, q5, _⟩ := _root_.id BB
          obtain ⟨r0, r1, r2, r3, r4, r5, _⟩ := _root_.id BC
          simp only [] at p0 p1 p2 p3 p4 p5 q0 q1 q2 q3 q4 q5 r0 r1 r2 r3 r4 r5
          go_wp2_with fail
          clear p0 p1 p2 p3 p4 p5 q0 q1 q2 q3 q4 q5 r0 r1 r2 r3 r4 r5
          refine (AC.out _ hM).mono ?_
          rintro e w8 ⟨rfl, hb1⟩
          have BA := BA.later hb1
          have BB := BB.later hb1
          have BC := BC.later hb1
          have hM := hM.later hb1
          have hbel := later hbel hb1
          clear hb1
          obtain ⟨p0, p1, p2, p3, p4, p5, _⟩ := _root_.id BA
          obtain ⟨q0, q1, q2, q3, q4, q5, _⟩ := _root_.id BB
          obtain ⟨r0, r1, r2, r3, r4, r5, _⟩ := _root_.id BC
          simp only [] at p0 p1 p2 p3 p4 p5 q0 q1 q2 q3 q4 q5 r0 r1 r2 r3 r4 r5
          go_wp2_with fail
          clear p0 p1 p2 p3 p4 p5 q0 q1 q2 q3 q4 q5 r0 r1 r2 r3 r4 r5
          refine (live_true _ hM).mono ?_
          rintro e w9 ⟨rfl, hb1⟩
          have BA := BA.later hb1
          have BB := BB.later hb1
          have BC := BC.later hb1
          have hM := hM.later hb1
          have hbel := later hbel hb1
          clear hb1
          obtain ⟨p0, p1, p2, p3, p4, p5, _⟩ := _root_.id BA
          obtain ⟨q0, q1, q2, q3, q4, q5, _⟩ := _root_.id BB
          obtain ⟨r0, r1, r2, r3, r4, r5, _⟩ := _root_.id BC
          simp only [] at p0 p1 p2 p3 p4 p5 q0 q1 q2 q3 q4 q5 r0 r1 r2 r3 r4 r5
          go_wp2_with fail
          clear p0 p1 p2 p3 p4 p5 q0 q1 q2 q3 q4 q5 r0 r1 r2 r3 r4 r5
          go_ret
          exact ⟨rfl, hbel⟩
    · rcases hP with p1 | ⟨p1, p2⟩ | ⟨p1, p2⟩
      all_goals
        go_enter Tryd.func6, Tryd.ntmps6
        go_wp2_with fail
        rw [← hw0]
        clear hw0
        refine (SA.out _).mono ?_
        rintro e w1 ⟨rfl, hb1⟩
        have BA := BA.later hb1
        have BB := BB.later hb1
        have BC := BC.later hb1
        have hM := hM.later hb1
        have hbel := later hbel hb1
        clear hb1
        obtain ⟨p0, p1, p2, p3, p4, p5, _⟩ := _root_.id BA
        obtain ⟨q0, q1, q2, q3, q4, q5, _⟩ := _root_.id BB
        obtain ⟨r0, r1, r2, r3, r4, r5, _⟩ := _root_.id BC
        simp only [] at p0 p1 p2 p3 p4 p5 q0 q1 q2 q3 q4 q5 r0 r1 r2 r3 r4 r5
        go_wp2_with fail
        clear p0 p1 p2 p3 p4 p5 q0 q1 q2 q3 q4 q5 r0 r1 r2 r3 r4 r5
        refine (SB.out _).mono ?_
        rintro e w2 ⟨rfl, hb1⟩
        have BA := BA.later hb1
        have BB := BB.later hb1
        have BC := BC.later hb1
        have hM := hM.later hb1
        have hbel := later hbel hb1
        clear hb1
        obtain ⟨p0, p1, p2, p3, p4, p5, _⟩ := _root_.id BA
        obtain ⟨q0, q1, q2, q3, q4, q5, _⟩ := _root_.id BB
        obtain ⟨r0, r1, r2, r3, r4, r5, _⟩ := _root_.id BC
        simp only [] at p0 p1 p2 p3 p4 p5 q0 q1 q2 q3 q4 q5 r0 r1 r2 r3 r4 r5
        go_wp2_with fail
        clear p0 p1 p2 p3 p4 p5 q0 q1 q2 q3 q4 q5 r0 r1 r2 r3 r4 r5
        refine (SC.out _).mono ?_
        rintro e w3 ⟨rfl, hb1⟩
        have BA := BA.later hb1
        have BB := BB.later hb1
        have BC := BC.later hb1
        have hM := hM.later hb1
        have hbel := later hbel hb1
        clear hb1
        obtain ⟨p0, p1, p2, p3, p4, p5, _⟩ := _root_.id BA
        obtain ⟨q0, q1, q2, q3, q4, q5, _⟩ := _root_.id BB
        obtain ⟨r0, r1, r2, r3, r4, r5, _⟩ := _root_.id BC
        simp only [] at p0 p1 p2 p3 p4 p5 q0 q1 q2 q3 q4 q5 r0 r1 r2 r3 r4 r5
        go_wp2_with fail
        clear p0 p1 p2 p3 p4 p5 q0 q1 q2 q3 q4 q5 r0 r1 r2 r3 r4 r5
        refine (AB.out _ hM).mono ?_
        rintro e w4 ⟨rfl, hb1⟩
        have BA := BA.later hb1
        have BB := BB.later hb1
        have BC := BC.later hb1
        have hM := hM.later hb1
        have hbel := later hbel hb1
        clear hb1
        obtain ⟨p0, p1, p2, p3, p4, p5, _⟩ := _root_.id BA
        obtain ⟨q0, q1, q2, q3, q4, q5, _⟩ := _root_.id BB
        obtain ⟨r0, r1, r2, r3, r4, r5, _⟩ := _root_.id BC
        simp only [] at p0 p1 p2 p3 p4 p5 q0 q1 q2 q3 q4 q5 r0 r1 r2 r3 r4 r5
        go_wp2_with fail
        clear p0 p1 p2 p3 p4 p5 q0 q1 q2 q3 q4 q5 r0 r1 r2 r3 r4 r5
        refine (BAx.out _ hM).mono ?_
        rintro e w5 ⟨rfl, hb1⟩
        have BA := BA.later hb1
        have BB := BB.later hb1
        have BC := BC.later hb1
        have hM := hM.later hb1
        have hbel := later hbel hb1
        clear hb1
        obtain ⟨p0, p1, p2, p3, p4, p5, _⟩ := _root_.id BA
        obtain ⟨q0, q1, q2, q3, q4, q5, _⟩ := _root_.id BB
        obtain ⟨r0, r1, r2, r3, r4, r5, _⟩ := _root_.id BC
        simp only [] at p0 p1 p2 p3 p4 p5 q0 q1 q2 q3 q4 q5 r0 r1 r2 r3 r4 r5
        go_wp2_with fail
        clear p0 p1 p2 p3 p4 p5 q0 q1 q2 q3 q4 q5 r0 r1 r2 r3 r4 r5
        refine (AA.out _ hM).mono ?_
        rintro e w6 ⟨rfl, hb1⟩
        have BA := BA.later hb1
        have BB := BB.later hb1
        have BC := BC.later hb1
        have hM := hM.later hb1
        have hbel := later hbel hb1
        clear hb1
        obtain ⟨p0, p1, p2, p3, p4, p5, _⟩ := _root_.id BA
        obtain ⟨q0, q1, q2, q3, q4, q5, _⟩ := _root_.id BB
        obtain ⟨r0, r1, r2, r3, r4, r5, _⟩ := _root_.id BC
        simp only [] at p0 p1 p2 p3 p4 p5 q0 q1 q2 q3 q4 q5 r0 r1 r2 r3 r4 r5
        go_wp2_with fail
        clear p0 p1 p2 p3 p4 p5 q0 q1 q2 q3 q4 q5 r0 r1 r2 r3 r4 r5
        refine (live_true _ hM).mono ?_
        rintro e w7 ⟨rfl, hb1⟩
        have BA := BA.later hb1
        have BB := BB.later hb1
        have BC := BC.later hb1
        have hM := hM.later hb1
        have hbel := later hbel hb1
        clear hb1
        obtain ⟨p0, p1, p2, p3, p4, p5, _⟩ := _root_.id BA
        obtain ⟨q0, q1, q2, q3, q4, q5, _⟩ := _root_.id BB
        obtain ⟨r0, r1, r2, r3, r4, r5, _⟩ := _root_.id BC
        simp only [] at p0 p1 p2 p3 p4 p5 q0 q1 q2 q3 q4 q5 r0 r1 r2 r3 r4 r5
        go_wp2_with fail
        clear p0 p1 p2 p3 p4 p5 q0 q1 q2 q3 q4 q5 r0 r1 r2 r3 r4 r5
        go_ret
        exact ⟨rfl, hbel⟩
    · go_enter Tryd.func6, Tryd.ntmps6
      go_wp2_with fail
      rw [← hw0]
      clear hw0
      refine (SA.out _).mono ?_
      rintro e w1 ⟨rfl, hb1⟩
      have BA := BA.later hb1
      have BB := BB.later hb1
      have BC := BC.later hb1
      have hM := hM.later hb1
      have hbel := later hbel hb1
      clear hb1
      obtain ⟨p0, p1, p2, p3, p4, p5, _⟩ := _root_.id BA
      obtain ⟨q0, q1, q2, q3, q4, q5, _⟩ := _root_.id BB
      obtain ⟨r0, r1, r2, r3, r4, r5, _⟩ := _root_.id BC
      simp only [] at p0 p1 p2 p3 p4 p5 q0 q1 q2 q3 q4 q5 r0 r1 r2 r3 r4 r5
      go_wp2_with fail
      clear p0 p1 p2 p3 p4 p5 q0 q1 q2 q3 q4 q5 r0 r1 r2 r3 r4 r5
      refine (SB.out _).mono ?_
      rintro e w2 ⟨rfl, hb1⟩
      have BA := BA.later hb1
      have BB := BB.later hb1
      have BC := BC.later hb1
      have hM := hM.later hb1
      have hbel := later hbel hb1
      clear hb1
      obtain ⟨p0, p1, p2, p3, p4, p5, _⟩ := _root_.id BA
      obtain ⟨q0, q1, q2, q3, q4, q5, _⟩ := _root_.id BB
      obtain ⟨r0, r1, r2, r3, r4, r5, _⟩ := _root_.id BC
      simp only [] at p0 p1 p2 p3 p4 p5 q0 q1 q2 q3 q4 q5 r0 r1 r2 r3 r4 r5
      go_wp2_with fail
      clear p0 p1 p2 p3 p4 p5 q0 q1 q2 q3 q4 q5 r0 r1 r2 r3 r4 r5
      refine (SC.out _).mono ?_
      rintro e w3 ⟨rfl, hb1⟩
      have BA := BA.later hb1
      have BB := BB.later hb1
      have BC := BC.later hb1
      have hM := hM.later hb1
      have hbel := later hbel hb1
      clear hb1
      obtain ⟨p0, p1, p2, p3, p4, p5, _⟩ := _root_.id BA
      obtain ⟨q0, q1, q2, q3, q4, q5, _⟩ := _root_.id BB
      obtain ⟨r0, r1, r2, r3, r4, r5, _⟩ := _root_.id BC
      simp only [] at p0 p1 p2 p3 p4 p5 q0 q1 q2 q3 q4 q5 r0 r1 r2 r3 r4 r5
      go_wp2_with fail
      clear p0 p1 p2 p3 p4 p5 q0 q1 q2 q3 q4 q5 r0 r1 r2 r3 r4 r5
      refine (AB.out _ hM).mono ?_
      rintro e w4 ⟨rfl, hb1⟩
      have BA := BA.later hb1
      have BB := BB.later hb1
      have BC := BC.later hb1
      have hM := hM.later hb1
      have hbel := later hbel hb1
      clear hb1
      obtain ⟨p0, p1, p2, p3, p4, p5, _⟩ := _root_.id BA
      obtain ⟨q0, q1, q2, q3, q4, q5, _⟩ := _root_.id BB
      obtain ⟨r0, r1, r2, r3, r4, r5, _⟩ := _root_.id BC
      simp only [] at p0 p1 p2 p3 p4 p5 q0 q1 q2 q3 q4 q5 r0 r1 r2 r3 r4 r5
      go_wp2_with fail
      clear p0 p1 p2 p3 p4 p5 q0 q1 q2 q3 q4 q5 r0 r1 r2 r3 r4 r5
      refine (BAx.out _ hM).mono ?_
      rintro e w5 ⟨rfl, hb1⟩
      have BA := BA.later hb1
      have BB := BB.later hb1
      have BC := BC.later hb1
      have hM := hM.later hb1
      have hbel := later hbel hb1
      clear hb1
      obtain ⟨p0, p1, p2, p3, p4, p5, _⟩ := _root_.id BA
      obtain ⟨q0, q1, q2, q3, q4, q5, _⟩ := _root_.id BB
      obtain ⟨r0, r1, r2, r3, r4, r5, _⟩ := _root_.id BC
      simp only [] at p0 p1 p2 p3 p4 p5 q0 q1 q2 q3 q4 q5 r0 r1 r2 r3 r4 r5
      go_wp2_with fail
      clear p0 p1 p2 p3 p4 p5 q0 q1 q2 q3 q4 q5 r0 r1 r2 r3 r4 r5
      refine (AA.out _ hM).mono ?_
      rintro e w6 ⟨rfl, hb1⟩
      have BA := BA.later hb1
      have BB := BB.later hb1
      have BC := BC.later hb1
      have hM := hM.later hb1
      have hbel := later hbel hb1
      clear hb1
      obtain ⟨p0, p1, p2, p3, p4, p5, _⟩ := _root_.id BA
      obtain ⟨q0, q1, q2, q3, q4, q5, _⟩ := _root_.id BB
      obtain ⟨r0, r1, r2, r3, r4, r5, _⟩ := _root_.id BC
      simp only [] at p0 p1 p2 p3 p4 p5 q0 q1 q2 q3 q4 q5 r0 r1 r2 r3 r4 r5
      go_wp2_with fail
      clear p0 p1 p2 p3 p4 p5 q0 q1 q2 q3 q4 q5 r0 r1 r2 r3 r4 r5
      refine (live_true _ hM).mono ?_
      rintro e w7 ⟨rfl, hb1⟩
      have BA := BA.later hb1
      have BB := BB.later hb1
      have BC := BC.later hb1
      have hM := hM.later hb1
      have hbel := later hbel hb1
      clear hb1
      obtain ⟨p0, p1, p2, p3, p4, p5, _⟩ := _root_.id BA
      obtain ⟨q0, q1, q2, q3, q4, q5, _⟩ := _root_.id BB
      obtain ⟨r0, r1, r2, r3, r4, r5, _⟩ := _root_.id BC
      simp only [] at p0 p1 p2 p3 p4 p5 q0 q1 q2 q3 q4 q5 r0 r1 r2 r3 r4 r5
      go_wp2_with fail
      clear p0 p1 p2 p3 p4 p5 q0 q1 q2 q3 q4 q5 r0 r1 r2 r3 r4 r5
      go_ret
      exact ⟨rfl, hbel⟩
end Go.Proofs.YtfhbcnomlgiciaaDoor.txnLine
