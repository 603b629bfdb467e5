/- The walk of hopperlaw04.TxnTips. -/
import Derived.Test.YtfhbcnomlgiciaaDoorTxnOpen
namespace Go.Proofs.YtfhbcnomlgiciaaDoor.txnTips
open Go.RowKit Go.ChangeShapes Go.WideShapes codec txn
set_option linter.unusedVariables false
set_option linter.unusedSimpArgs false

theorem step_up (s n t c g : Int) (d : ByteArray) (m : Int) (hok : (Tx.mk s n t c g d).ok = true) (h1 : 1 ≤ m) (h2 : t + m ≤ c) :
    (Tx.mk s n (t + m) c g d).ok = true ∧ betterV ⟨s, n, t + m, c, g, d⟩ ⟨s, n, t, c, g, d⟩ = true ∧ betterV ⟨s, n, t, c, g, d⟩ ⟨s, n, t + m, c, g, d⟩ = false := by
  refine ⟨?_, ?_, ?_⟩
  · simp only [Tx.ok, decide_eq_true_eq] at hok ⊢
    omega
  · unfold betterV
    rw [if_pos (by show t + m ≠ t; omega)]
    exact decide_eq_true (by show t < t + m; omega)
  · unfold betterV
    rw [if_pos (by show t ≠ t + m; omega)]
    exact decide_eq_false (by show ¬ t + m < t; omega)
theorem slot_bd (x : Tx) (h : x.ok = true) : 1 ≤ slotV x ∧ ((enc x).length : Int) ≤ 32 * slotV x ∧ slotV x ≤ 13 := by
  have hl := enc_len x h
  have h2 := h
  simp only [Tx.ok, decide_eq_true_eq] at h2
  unfold slotV
  rw [h, if_pos rfl]
  unfold sat.slotsV sat.slotsOf
  rw [if_pos (by omega)]
  split <;> omega

set_option maxHeartbeats 4000000 in
theorem walk (x : Tx) (m : Int) (w : World) (hM : Most w) (fx : x.fine) (wm : (Lit.int .i64 m).wf = true) :
    Calls Tryd.prog 8 #[x.val, .int .i64 m] w fun e w' => e = .returned (.bool true) ∧ Below w.heap.size w w' := by
  have fm := bounds_i64 wm
  have hd : x.d.size ≤ maxLen := fx.2.2.2.2.2
  have BA := Box.own w x 23
  have hbel := laid (Below.refl w.heap.size w) (.cells #[.int .i64 x.s, .int .i64 x.n, .int .i64 x.t, .int .i64 x.c, .int .i64 x.g, .string x.d] 23 (0, 0))
  have hM := hM.later hbel
  have SM := Lib.hid (fun w => small x w hd)
  have CK := Lib.hid (fun w hM => check x w hM)
  have ID := Lib.hid (fun w hM => txn.id x w hM hd)
  clear wm
  by_cases hs : x.d.size ≤ 500
  · rw [decide_eq_true hs] at SM
    cases hok : x.ok with
    | false =>
      have ei : idV x = [] := by unfold idV; rw [hok]; rfl
      rw [ei] at ID
      rw [hok] at CK
      obtain ⟨az, an, ap, ac, ag, ad⟩ := x
      simp only [Tx.val] at SM CK ID ⊢
      simp only [] at BA hM hbel
      clear fx hd hs hok ei
      have D : decide (m < 1) = true ∨ (decide (m < 1) = false ∧ decide (1048576 < m) = true) ∨ (decide (m < 1) = false ∧ decide (1048576 < m) = false) := by simp; omega
      rcases D with d1 | ⟨d1, d2⟩ | ⟨d1, d2⟩
      · go_enter Tryd.func8, Tryd.ntmps8
        go_wp2_with fail
        generalize w.alloc (.cells #[.int .i64 az, .int .i64 an, .int .i64 ap, .int .i64 ac, .int .i64 ag, .string ad] 23 (0, 0)) = w0 at BA hM hbel ⊢
        refine (SM.out _).mono ?_
        rintro e w1 ⟨rfl, hb1⟩
        have BA := BA.later hb1
        have hM := hM.later hb1
        have hbel := later hbel hb1
        clear hb1
        obtain ⟨p0, p1, p2, p3, p4, p5, _⟩ := _root_.id BA
        simp only [] at p0 p1 p2 p3 p4 p5
        go_wp2_with fail
        clear p0 p1 p2 p3 p4 p5
        refine (SM.out _).mono ?_
        rintro e w2 ⟨rfl, hb1⟩
        have BA := BA.later hb1
        have hM := hM.later hb1
        have hbel := later hbel hb1
        clear hb1
        obtain ⟨p0, p1, p2, p3, p4, p5, _⟩ := _root_.id BA
        simp only [] at p0 p1 p2 p3 p4 p5
        go_wp2_with fail
        clear p0 p1 p2 p3 p4 p5
        refine (CK.out _ hM).mono ?_
        rintro e w3 ⟨rfl, hb1⟩
        have BA := BA.later hb1
        have hM := hM.later hb1
        have hbel := later hbel hb1
        clear hb1
        obtain ⟨p0, p1, p2, p3, p4, p5, _⟩ := _root_.id BA
        simp only [] at p0 p1 p2 p3 p4 p5
        go_wp2_with fail
        clear p0 p1 p2 p3 p4 p5
        refine (ID.out _ hM).mono ?_
        rintro e w4 ⟨rfl, hb1⟩
        have BA := BA.later hb1
        have hM := hM.later hb1
        have hbel := later hbel hb1
        clear hb1
        obtain ⟨p0, p1, p2, p3, p4, p5, _⟩ := _root_.id BA
        simp only [] at p0 p1 p2 p3 p4 p5
        go_wp2_with fail
        clear p0 p1 p2 p3 p4 p5
        refine (live_true _ hM).mono ?_
        rintro e w5 ⟨rfl, hb1⟩
        have BA := BA.later hb1
        have hM := hM.later hb1
        have hbel := later hbel hb1
        clear hb1
        obtain ⟨p0, p1, p2, p3, p4, p5, _⟩ := _root_.id BA
        simp only [] at p0 p1 p2 p3 p4 p5
        go_wp2_with fail
        clear p0 p1 p2 p3 p4 p5
        go_ret
        exact ⟨rfl, hbel⟩
      · go_enter Tryd.func8, Tryd.ntmps8
        go_wp2_with fail
        generalize w.alloc (.cells #[.int .i64 az, .int .i64 an, .int .i64 ap, .int .i64 ac, .int .i64 ag, .string ad] 23 (0, 0)) = w0 at BA hM hbel ⊢
        refine (SM.out _).mono ?_
        rintro e w1 ⟨rfl, hb1⟩
        have BA := BA.later hb1
        have hM := hM.later hb1
        have hbel := later hbel hb1
        clear hb1
        obtain ⟨p0, p1, p2, p3, p4, p5, _⟩ := _root_.id BA
        simp only [] at p0 p1 p2 p3 p4 p5
        go_wp2_with fail
        clear p0 p1 p2 p3 p4 p5
        refine (SM.out _).mono ?_
        rintro e w2 ⟨rfl, hb1⟩
        have BA := BA.later hb1
        have hM := hM.later hb1
        have hbel := later hbel hb1
        clear hb1
        obtain ⟨p0, p1, p2, p3, p4, p5, _⟩ := _root_.id BA
        simp only [] at p0 p1 p2 p3 p4 p5
        go_wp2_with fail
        clear p0 p1 p2 p3 p4 p5
        refine (CK.out _ hM).mono ?_
        rintro e w3 ⟨rfl, hb1⟩
        have BA := BA.later hb1
        have hM := hM.later hb1
        have hbel := later hbel hb1
        clear hb1
        obtain ⟨p0, p1, p2, p3, p4, p5, _⟩ := _root_.id BA
        simp only [] at p0 p1 p2 p3 p4 p5
        go_wp2_with fail
        clear p0 p1 p2 p3 p4 p5
        refine (ID.out _ hM).mono ?_
        rintro e w4 ⟨rfl, hb1⟩
        have BA := BA.later hb1
        have hM := hM.later hb1
        have hbel := later hbel hb1
        clear hb1
        obtain ⟨p0, p1, p2, p3, p4, p5, _⟩ := _root_.id BA
        simp only [] at p0 p1 p2 p3 p4 p5
        go_wp2_with fail
        clear p0 p1 p2 p3 p4 p5
        refine (live_true _ hM).mono ?_
        rintro e w5 ⟨rfl, hb1⟩
        have BA := BA.later hb1
        have hM := hM.later hb1
        have hbel := later hbel hb1
        clear hb1
        obtain ⟨p0, p1, p2, p3, p4, p5, _⟩ := _root_.id BA
        simp only [] at p0 p1 p2 p3 p4 p5
        go_wp2_with fail
        clear p0 p1 p2 p3 p4 p5
        go_ret
        exact ⟨rfl, hbel⟩
      · go_enter Tryd.func8, Tryd.ntmps8
        go_wp2_with fail
        generalize w.alloc (.cells #[.int .i64 az, .int .i64 an, .int .i64 ap, .int .i64 ac, .int .i64 ag, .string ad] 23 (0, 0)) = w0 at BA hM hbel ⊢
        refine (SM.out _).mono ?_
        rintro e w1 ⟨rfl, hb1⟩
        have BA := BA.later hb1
        have hM := hM.later hb1
        have hbel := later hbel hb1
        clear hb1
        obtain ⟨p0, p1, p2, p3, p4, p5, _⟩ := _root_.id BA
        simp only [] at p0 p1 p2 p3 p4 p5
        go_wp2_with fail
        clear p0 p1 p2 p3 p4 p5
        refine (CK.out _ hM).mono ?_
        rintro e w2 ⟨rfl, hb1⟩
        have BA := BA.later hb1
        have hM := hM.later hb1
        have hbel := later hbel hb1
        clear hb1
        obtain ⟨p0, p1, p2, p3, p4, p5, _⟩ := _root_.id BA
        simp only [] at p0 p1 p2 p3 p4 p5
        go_wp2_with fail
        clear p0 p1 p2 p3 p4 p5
        refine (SM.out _).mono ?_
        rintro e w3 ⟨rfl, hb1⟩
        have BA := BA.later hb1
        have hM := hM.later hb1
        have hbel := later hbel hb1
        clear hb1
        obtain ⟨p0, p1, p2, p3, p4, p5, _⟩ := _root_.id BA
        simp only [] at p0 p1 p2 p3 p4 p5
        go_wp2_with fail
        clear p0 p1 p2 p3 p4 p5
        refine (CK.out _ hM).mono ?_
        rintro e w4 ⟨rfl, hb1⟩
        have BA := BA.later hb1
        have hM := hM.later hb1
        have hbel := later hbel hb1
        clear hb1
        obtain ⟨p0, p1, p2, p3, p4, p5, _⟩ := _root_.id BA
        simp only [] at p0 p1 p2 p3 p4 p5
        go_wp2_with fail
        clear p0 p1 p2 p3 p4 p5
        refine (ID.out _ hM).mono ?_
        rintro e w5 ⟨rfl, hb1⟩
        have BA := BA.later hb1
        have hM := hM.later hb1
        have hbel := later hbel hb1
        clear hb1
        obtain ⟨p0, p1, p2, p3, p4, p5, _⟩ := _root_.id BA
        simp only [] at p0 p1 p2 p3 p4 p5
        go_wp2_with fail
        clear p0 p1 p2 p3 p4 p5
        refine (live_true _ hM).mono ?_
        rintro e w6 ⟨rfl, hb1⟩
        have BA := BA.later hb1
        have hM := hM.later hb1
        have hbel := later hbel hb1
        clear hb1
        obtain ⟨p0, p1, p2, p3, p4, p5, _⟩ := _root_.id BA
        simp only [] at p0 p1 p2 p3 p4 p5
        go_wp2_with fail
        clear p0 p1 p2 p3 p4 p5
        go_ret
        exact ⟨rfl, hbel⟩
    | true =>
      have h2 := hok
      simp only [Tx.ok, decide_eq_true_eq] at h2
      by_cases hup : 1 ≤ m ∧ m ≤ 1048576 ∧ x.t + m ≤ x.c
      · obtain ⟨u1, u2, u3⟩ := hup
        obtain ⟨az, an, ap, ac, ag, ad⟩ := x
        simp only [] at u1 u2 u3 h2
        obtain ⟨ok2, b1, b2⟩ := step_up az an ap ac ag ad m hok u1 u3
        have hdu : ad.size ≤ maxLen := hd
        have B1 := Lib.hid (fun w hM => better ⟨az, an, ap + m, ac, ag, ad⟩ ⟨az, an, ap, ac, ag, ad⟩ w hM hdu hdu)
        have B2 := Lib.hid (fun w hM => better ⟨az, an, ap, ac, ag, ad⟩ ⟨az, an, ap + m, ac, ag, ad⟩ w hM hdu hdu)
        have EN := Lib.hid (fun w hM => encode ⟨az, an, ap + m, ac, ag, ad⟩ w hM hdu)
        have SL := Lib.hid (fun w hM => slots ⟨az, an, ap + m, ac, ag, ad⟩ w hM hdu)
        have CU := Lib.hid (fun w hM => check ⟨az, an, ap + m, ac, ag, ad⟩ w hM)
        have IU := Lib.hid (fun w hM => txn.id ⟨az, an, ap + m, ac, ag, ad⟩ w hM hdu)
        have il := id_len _ ok2
        have sb := slot_bd _ ok2
        have el := enc_len _ ok2
        have ev : encV ⟨az, an, ap + m, ac, ag, ad⟩ = enc ⟨az, an, ap + m, ac, ag, ad⟩ := by unfold encV; rw [ok2]; rfl
        rw [b1] at B1
        rw [b2] at B2
        rw [ok2, ev] at EN
        rw [ok2] at CU
        rw [hok] at CK
        generalize enc ⟨az, an, ap + m, ac, ag, ad⟩ = E at EN sb el
        generalize slotV ⟨az, an, ap + m, ac, ag, ad⟩ = sl at SL sb
        generalize idV ⟨az, an, ap + m, ac, ag, ad⟩ = I at IU il
        simp only [Tx.val] at SM CK B1 B2 EN SL CU IU ⊢
        simp only [] at BA hM hbel hs
        obtain ⟨sb1, sb2, sb3⟩ := sb
        have el2 : E.length ≤ 600 := by have := el.1; simp only [] at this; omega
        have d1 : decide (m < 1) = false := by simp; omega
        have d2 : decide (1048576 < m) = false := by simp; omega
        have d3 : decide (ac - m < ap) = false := by simp; omega
        have hc0 : 0 ≤ ac ∧ ac ≤ 1099511627776 ∧ 0 ≤ ap ∧ ap ≤ 1099511627776 := by omega
        clear fx hd hs hok h2 b1 b2 ok2 ev el hdu
        go_enter Tryd.func8, Tryd.ntmps8
        go_wp2_with fail
        generalize w.alloc (.cells #[.int .i64 az, .int .i64 an, .int .i64 ap, .int .i64 ac, .int .i64 ag, .string ad] 23 (0, 0)) = w0 at BA hM hbel ⊢
        refine (SM.out _).mono ?_
        rintro e w1 ⟨rfl, hb1⟩
        have BA := BA.later hb1
        have hM := hM.later hb1
        have hbel := later hbel hb1
        clear hb1
        obtain ⟨p0, p1, p2, p3, p4, p5, _⟩ := _root_.id BA
        simp only [] at p0 p1 p2 p3 p4 p5
        go_wp2_with fail
        clear p0 p1 p2 p3 p4 p5
        refine (CK.out _ hM).mono ?_
        rintro e w2 ⟨rfl, hb1⟩
        have BA := BA.later hb1
        have hM := hM.later hb1
        have hbel := later hbel hb1
        clear hb1
        obtain ⟨p0, p1, p2, p3, p4, p5, _⟩ := _root_.id BA
        simp only [] at p0 p1 p2 p3 p4 p5
        go_wp2_with fail
        clear p0 p1 p2 p3 p4 p5
        have BU := Box.own w2 ⟨az, an, ap + m, ac, ag, ad⟩ 23
        simp only [] at BU
        have hl : Below w2.heap.size w2 (w2.alloc (.cells #[.int .i64 az, .int .i64 an, .int .i64 (ap + m), .int .i64 ac, .int .i64 ag, .string ad] 23 (0, 0))) := laid (Below.refl _ _) _
        have BA := BA.later hl
        have hM := hM.later hl
        have hbel := later hbel hl
        clear hl
        generalize w2.alloc (.cells #[.int .i64 az, .int .i64 an, .int .i64 (ap + m), .int .i64 ac, .int .i64 ag, .string ad] 23 (0, 0)) = w2u at BA BU hM hbel ⊢
        refine (EN.out _ hM).mono ?_
        rintro e w3 ⟨rfl, hb1⟩
        have BA := BA.later hb1
        have BU := BU.later hb1
        have hM := hM.later hb1
        have hbel := later hbel hb1
        clear hb1
        obtain ⟨p0, p1, p2, p3, p4, p5, _⟩ := _root_.id BA
        obtain ⟨q0, q1, q2, q3, q4, q5, _⟩ := _root_.id BU
        simp only [] at p0 p1 p2 p3 p4 p5 q0 q1 q2 q3 q4 q5
        go_wp2_with fail
        clear p0 p1 p2 p3 p4 p5 q0 q1 q2 q3 q4 q5
        refine (CU.out _ hM).mono ?_
        rintro e w4 ⟨rfl, hb1⟩
        have BA := BA.later hb1
        have BU := BU.later hb1
        have hM := hM.later hb1
        have hbel := later hbel hb1
        clear hb1
        obtain ⟨p0, p1, p2, p3, p4, p5, _⟩ := _root_.id BA
        obtain ⟨q0, q1, q2, q3, q4, q5, _⟩ := _root_.id BU
        simp only [] at p0 p1 p2 p3 p4 p5 q0 q1 q2 q3 q4 q5
        go_wp2_with fail
        clear p0 p1 p2 p3 p4 p5 q0 q1 q2 q3 q4 q5
        refine (B1.out _ hM).mono ?_
        rintro e w5 ⟨rfl, hb1⟩
        have BA := BA.later hb1
        have BU := BU.later hb1
        have hM := hM.later hb1
        have hbel := later hbel hb1
        clear hb1
        obtain ⟨p0, p1, p2, p3, p4, p5, _⟩ := _root_.id BA
        obtain ⟨q0, q1, q2, q3, q4, q5, _⟩ := _root_.id BU
        simp only [] at p0 p1 p2 p3 p4 p5 q0 q1 q2 q3 q4 q5
        go_wp2_with fail
        clear p0 p1 p2 p3 p4 p5 q0 q1 q2 q3 q4 q5
        refine (B2.out _ hM).mono ?_
        rintro e w6 ⟨rfl, hb1⟩
        have BA := BA.later hb1
        have BU := BU.later hb1
        have hM := hM.later hb1
        have hbel := later hbel hb1
        clear hb1
        obtain ⟨p0, p1, p2, p3, p4, p5, _⟩ := _root_.id BA
        obtain ⟨q0, q1, q2, q3, q4, q5, _⟩ := _root_.id BU
        simp only [] at p0 p1 p2 p3 p4 p5 q0 q1 q2 q3 q4 q5
        go_wp2_with fail
        clear p0 p1 p2 p3 p4 p5 q0 q1 q2 q3 q4 q5
        refine (SL.out _ hM).mono ?_
        rintro e w7 ⟨rfl, hb1⟩
        have BA := BA.later hb1
        have BU := BU.later hb1
        have hM := hM.later hb1
        have hbel := later hbel hb1
        clear hb1
        obtain ⟨p0, p1, p2, p3, p4, p5, _⟩ := _root_.id BA
        obtain ⟨q0, q1, q2, q3, q4, q5, _⟩ := _root_.id BU
        simp only [] at p0 p1 p2 p3 p4 p5 q0 q1 q2 q3 q4 q5
        go_wp2_with fail
        clear p0 p1 p2 p3 p4 p5 q0 q1 q2 q3 q4 q5
        refine (SL.out _ hM).mono ?_
        rintro e w8 ⟨rfl, hb1⟩
        have BA := BA.later hb1
        have BU := BU.later hb1
        have hM := hM.later hb1
        have hbel := later hbel hb1
        clear hb1
        obtain ⟨p0, p1, p2, p3, p4, p5, _⟩ := _root_.id BA
        obtain ⟨q0, q1, q2, q3, q4, q5, _⟩ := _root_.id BU
        simp only [] at p0 p1 p2 p3 p4 p5 q0 q1 q2 q3 q4 q5
        go_wp2_with fail
        clear p0 p1 p2 p3 p4 p5 q0 q1 q2 q3 q4 q5
        refine (IU.out _ hM).mono ?_
        rintro e w9 ⟨rfl, hb1⟩
        have BA := BA.later hb1
        have BU := BU.later hb1
        have hM := hM.later hb1
        have hbel := later hbel hb1
        clear hb1
        obtain ⟨p0, p1, p2, p3, p4, p5, _⟩ := _root_.id BA
        obtain ⟨q0, q1, q2, q3, q4, q5, _⟩ := _root_.id BU
        simp only [] at p0 p1 p2 p3 p4 p5 q0 q1 q2 q3 q4 q5
        go_wp2_with fail
        clear p0 p1 p2 p3 p4 p5 q0 q1 q2 q3 q4 q5
        refine (live_true _ hM).mono ?_
        rintro e w10 ⟨rfl, hb1⟩
        have BA := BA.later hb1
        have BU := BU.later hb1
        have hM := hM.later hb1
        have hbel := later hbel hb1
        clear hb1
        obtain ⟨p0, p1, p2, p3, p4, p5, _⟩ := _root_.id BA
        obtain ⟨q0, q1, q2, q3, q4, q5, _⟩ := _root_.id BU
        simp only [] at p0 p1 p2 p3 p4 p5 q0 q1 q2 q3 q4 q5
        go_wp2_with fail
        clear p0 p1 p2 p3 p4 p5 q0 q1 q2 q3 q4 q5
        go_ret
        exact ⟨rfl, hbel⟩
      · have D : decide (m < 1) = true ∨ (decide (m < 1) = false ∧ decide (1048576 < m) = true) ∨ (decide (m < 1) = false ∧ decide (1048576 < m) = false ∧ decide (x.c - m < x.t) = true ∧ 1 ≤ m ∧ m ≤ 1048576) := by simp; omega
        rw [hok] at CK
        obtain ⟨az, an, ap, ac, ag, ad⟩ := x
        simp only [Tx.val] at SM CK ⊢
        simp only [] at BA hM hbel D h2
        have hc0 : 0 ≤ ac ∧ ac ≤ 1099511627776 ∧ 0 ≤ ap ∧ ap ≤ 1099511627776 := by omega
        clear fx hd hs hok hup h2 ID
        rcases D with d1 | ⟨d1, d2⟩ | ⟨d1, d2, d3, d4, d5⟩
        · go_enter Tryd.func8, Tryd.ntmps8
          go_wp2_with fail
          generalize w.alloc (.cells #[.int .i64 az, .int .i64 an, .int .i64 ap, .int .i64 ac, .int .i64 ag, .string ad] 23 (0, 0)) = w0 at BA hM hbel ⊢
          refine (SM.out _).mono ?_
          rintro e w1 ⟨rfl, hb1⟩
          have BA := BA.later hb1
          have hM := hM.later hb1
          have hbel := later hbel hb1
          clear hb1
          obtain ⟨p0, p1, p2, p3, p4, p5, _⟩ := _root_.id BA
          simp only [] at p0 p1 p2 p3 p4 p5
          go_wp2_with fail
          clear p0 p1 p2 p3 p4 p5
          refine (SM.out _).mono ?_
          rintro e w2 ⟨rfl, hb1⟩
          have BA := BA.later hb1
          have hM := hM.later hb1
          have hbel := later hbel hb1
          clear hb1
          obtain ⟨p0, p1, p2, p3, p4, p5, _⟩ := _root_.id BA
          simp only [] at p0 p1 p2 p3 p4 p5
          go_wp2_with fail
          clear p0 p1 p2 p3 p4 p5
          refine (CK.out _ hM).mono ?_
          rintro e w3 ⟨rfl, hb1⟩
          have BA := BA.later hb1
          have hM := hM.later hb1
          have hbel := later hbel hb1
          clear hb1
          obtain ⟨p0, p1, p2, p3, p4, p5, _⟩ := _root_.id BA
          simp only [] at p0 p1 p2 p3 p4 p5
          go_wp2_with fail
          clear p0 p1 p2 p3 p4 p5
          refine (live_true _ hM).mono ?_
          rintro e w4 ⟨rfl, hb1⟩
          have BA := BA.later hb1
          have hM := hM.later hb1
          have hbel := later hbel hb1
          clear hb1
          obtain ⟨p0, p1, p2, p3, p4, p5, _⟩ := _root_.id BA
          simp only [] at p0 p1 p2 p3 p4 p5
          go_wp2_with fail
          clear p0 p1 p2 p3 p4 p5
          go_ret
          exact ⟨rfl, hbel⟩
        · go_enter Tryd.func8, Tryd.ntmps8
          go_wp2_with fail
          generalize w.alloc (.cells #[.int .i64 az, .int .i64 an, .int .i64 ap, .int .i64 ac, .int .i64 ag, .string ad] 23 (0, 0)) = w0 at BA hM hbel ⊢
          refine (SM.out _).mono ?_
          rintro e w1 ⟨rfl, hb1⟩
          have BA := BA.later hb1
          have hM := hM.later hb1
          have hbel := later hbel hb1
          clear hb1
          obtain ⟨p0, p1, p2, p3, p4, p5, _⟩ := _root_.id BA
          simp only [] at p0 p1 p2 p3 p4 p5
          go_wp2_with fail
          clear p0 p1 p2 p3 p4 p5
          refine (SM.out _).mono ?_
          rintro e w2 ⟨rfl, hb1⟩
          have BA := BA.later hb1
          have hM := hM.later hb1
          have hbel := later hbel hb1
          clear hb1
          obtain ⟨p0, p1, p2, p3, p4, p5, _⟩ := _root_.id BA
          simp only [] at p0 p1 p2 p3 p4 p5
          go_wp2_with fail
          clear p0 p1 p2 p3 p4 p5
          refine (CK.out _ hM).mono ?_
          rintro e w3 ⟨rfl, hb1⟩
          have BA := BA.later hb1
          have hM := hM.later hb1
          have hbel := later hbel hb1
          clear hb1
          obtain ⟨p0, p1, p2, p3, p4, p5, _⟩ := _root_.id BA
          simp only [] at p0 p1 p2 p3 p4 p5
          go_wp2_with fail
          clear p0 p1 p2 p3 p4 p5
          refine (live_true _ hM).mono ?_
          rintro e w4 ⟨rfl, hb1⟩
          have BA := BA.later hb1
          have hM := hM.later hb1
          have hbel := later hbel hb1
          clear hb1
          obtain ⟨p0, p1, p2, p3, p4, p5, _⟩ := _root_.id BA
          simp only [] at p0 p1 p2 p3 p4 p5
          go_wp2_with fail
          clear p0 p1 p2 p3 p4 p5
          go_ret
          exact ⟨rfl, hbel⟩
        · go_enter Tryd.func8, Tryd.ntmps8
          go_wp2_with fail
          generalize w.alloc (.cells #[.int .i64 az, .int .i64 an, .int .i64 ap, .int .i64 ac, .int .i64 ag, .string ad] 23 (0, 0)) = w0 at BA hM hbel ⊢
          refine (SM.out _).mono ?_
          rintro e w1 ⟨rfl, hb1⟩
          have BA := BA.later hb1
          have hM := hM.later hb1
          have hbel := later hbel hb1
          clear hb1
          obtain ⟨p0, p1, p2, p3, p4, p5, _⟩ := _root_.id BA
          simp only [] at p0 p1 p2 p3 p4 p5
          go_wp2_with fail
          clear p0 p1 p2 p3 p4 p5
          refine (CK.out _ hM).mono ?_
          rintro e w2 ⟨rfl, hb1⟩
          have BA := BA.later hb1
          have hM := hM.later hb1
          have hbel := later hbel hb1
          clear hb1
          obtain ⟨p0, p1, p2, p3, p4, p5, _⟩ := _root_.id BA
          simp only [] at p0 p1 p2 p3 p4 p5
          go_wp2_with fail
          clear p0 p1 p2 p3 p4 p5
          refine (SM.out _).mono ?_
          rintro e w3 ⟨rfl, hb1⟩
          have BA := BA.later hb1
          have hM := hM.later hb1
          have hbel := later hbel hb1
          clear hb1
          obtain ⟨p0, p1, p2, p3, p4, p5, _⟩ := _root_.id BA
          simp only [] at p0 p1 p2 p3 p4 p5
          go_wp2_with fail
          clear p0 p1 p2 p3 p4 p5
          refine (CK.out _ hM).mono ?_
          rintro e w4 ⟨rfl, hb1⟩
          have BA := BA.later hb1
          have hM := hM.later hb1
          have hbel := later hbel hb1
          clear hb1
          obtain ⟨p0, p1, p2, p3, p4, p5, _⟩ := _root_.id BA
          simp only [] at p0 p1 p2 p3 p4 p5
          go_wp2_with fail
          clear p0 p1 p2 p3 p4 p5
          refine (live_true _ hM).mono ?_
          rintro e w5 ⟨rfl, hb1⟩
          have BA := BA.later hb1
          have hM := hM.later hb1
          have hbel := later hbel hb1
          clear hb1
          obtain ⟨p0, p1, p2, p3, p4, p5, _⟩ := _root_.id BA
          simp only [] at p0 p1 p2 p3 p4 p5
          go_wp2_with fail
          clear p0 p1 p2 p3 p4 p5
          go_ret
          exact ⟨rfl, hbel⟩
  · rw [decide_eq_false hs] at SM
    obtain ⟨az, an, ap, ac, ag, ad⟩ := x
    simp only [Tx.val] at SM ⊢
    simp only [] at BA hM hbel
    clear fx hd hs CK ID
    go_enter Tryd.func8, Tryd.ntmps8
    go_wp2_with fail
    generalize w.alloc (.cells #[.int .i64 az, .int .i64 an, .int .i64 ap, .int .i64 ac, .int .i64 ag, .string ad] 23 (0, 0)) = w0 at BA hM hbel ⊢
    refine (SM.out _).mono ?_
    rintro e w1 ⟨rfl, hb1⟩
    have BA := BA.later hb1
    have hM := hM.later hb1
    have hbel := later hbel hb1
    clear hb1
    obtain ⟨p0, p1, p2, p3, p4, p5, _⟩ := _root_.id BA
    simp only [] at p0 p1 p2 p3 p4 p5
    go_wp2_with fail
    clear p0 p1 p2 p3 p4 p5
    refine (SM.out _).mono ?_
    rintro e w2 ⟨rfl, hb1⟩
    have BA := BA.later hb1
    have hM := hM.later hb1
    have hbel := later hbel hb1
    clear hb1
    obtain ⟨p0, p1, p2, p3, p4, p5, _⟩ := _root_.id BA
    simp only [] at p0 p1 p2 p3 p4 p5
    go_wp2_with fail
    clear p0 p1 p2 p3 p4 p5
    refine (live_true _ hM).mono ?_
    rintro e w3 ⟨rfl, hb1⟩
    have BA := BA.later hb1
    have hM := hM.later hb1
    have hbel := later hbel hb1
    clear hb1
    obtain ⟨p0, p1, p2, p3, p4, p5, _⟩ := _root_.id BA
    simp only [] at p0 p1 p2 p3 p4 p5
    go_wp2_with fail
    clear p0 p1 p2 p3 p4 p5
    go_ret
    exact ⟨rfl, hbel⟩
end Go.Proofs.YtfhbcnomlgiciaaDoor.txnTips
