/- The walk of hopperlaw04.TxnSlots. -/
import Derived.Test.YtfhbcnomlgiciaaDoorTxnOpen
import Derived.Test.YtfhbcnomlgiciaaDoorTxnTipsWalk
namespace Go.Proofs.YtfhbcnomlgiciaaDoor.txnSlots
open Go.RowKit Go.ChangeShapes Go.WideShapes codec txn
set_option linter.unusedVariables false
set_option linter.unusedSimpArgs false

theorem slots_grow (s n t c g : Int) (d more : ByteArray) (h1 : (Tx.mk s n t c g d).ok = true) (h2 : (Tx.mk s n t c g (d ++ more)).ok = true) :
    slotV ⟨s, n, t, c, g, d⟩ ≤ slotV ⟨s, n, t, c, g, d ++ more⟩ ∧ 32 * (slotV ⟨s, n, t, c, g, d ++ more⟩ - slotV ⟨s, n, t, c, g, d⟩) < more.size + 32 := by
  have l1 := enc_len _ h1
  have l2 := enc_len _ h2
  have k1 := h1
  have k2 := h2
  simp only [Tx.ok, decide_eq_true_eq] at k1 k2
  have e : (enc ⟨s, n, t, c, g, d ++ more⟩).length = (enc ⟨s, n, t, c, g, d⟩).length + more.size := by
    simp only [enc, List.length_append, text_len, ByteArray.data_append, Array.toList_append]
    have : more.data.toList.length = more.size := by simp
    omega
  have hz : (d ++ more).size = d.size + more.size := ByteArray.size_append
  unfold slotV
  rw [h1, h2, if_pos rfl, if_pos rfl, e]
  simp only [] at l1 l2
  clear e h1 h2
  generalize (enc ⟨s, n, t, c, g, d⟩).length = L at l1 ⊢
  unfold sat.slotsV sat.slotsOf
  have hL : L + more.size ≤ 400 := by omega
  repeat' split
  all_goals omega

set_option maxHeartbeats 4000000 in
theorem walk (x : Tx) (more : ByteArray) (w : World) (hM : Most w) (fx : x.fine) (wm : more.size ≤ maxLen) :
    Calls Tryd.prog 9 #[x.val, .string more] w fun e w' => e = .returned (.bool true) ∧ Below w.heap.size w w' := by
  have hd : x.d.size ≤ maxLen := fx.2.2.2.2.2
  have BA := Box.own w x 23
  have hbel := laid (Below.refl w.heap.size w) (.cells #[.int .i64 x.s, .int .i64 x.n, .int .i64 x.t, .int .i64 x.c, .int .i64 x.g, .string x.d] 23 (0, 0))
  have hM := hM.later hbel
  have SM := Lib.hid (fun w => small x w hd)
  have CK := Lib.hid (fun w hM => check x w hM)
  have hm := wm
  unfold maxLen at hm
  by_cases hs : x.d.size ≤ 500
  · rw [decide_eq_true hs] at SM
    by_cases hmo : more.size ≤ 256
    · have d1 : decide (256 < (more.size : Int)) = false := by simp; omega
      cases hok : x.ok with
      | false =>
        rw [hok] at CK
        obtain ⟨az, an, ap, ac, ag, ad⟩ := x
        simp only [Tx.val] at SM CK ⊢
        simp only [] at BA hM hbel
        clear fx hd hs hok hmo wm
        go_enter Tryd.func9, Tryd.ntmps9
        go_wp2_with fail
        generalize w.alloc (.cells #[.int .i64 az, .int .i64 an, .int .i64 ap, .int .i64 ac, .int .i64 ag, .string ad] 23 (0, 0)) = w0 at BA hM hbel ⊢
        refine (SM.out _).mono ?_
        rintro e w1 ⟨rfl, hb1⟩
        have BA := BA.later hb1
        have hM := hM.later hb1
        have hbel := later hbel hb1
        clear hb1
        obtain ⟨p0, p1, p2, p3, p4, p5, _⟩ := _root_.id BA
        simp only [] at p0 p1 p2 p3 p4 p5
        go_wp2_with fail
        clear p0 p1 p2 p3 p4 p5
        refine (CK.out _ hM).mono ?_
        rintro e w2 ⟨rfl, hb1⟩
        have BA := BA.later hb1
        have hM := hM.later hb1
        have hbel := later hbel hb1
        clear hb1
        obtain ⟨p0, p1, p2, p3, p4, p5, _⟩ := _root_.id BA
        simp only [] at p0 p1 p2 p3 p4 p5
        go_wp2_with fail
        clear p0 p1 p2 p3 p4 p5
        refine (live_true _ hM).mono ?_
        rintro e w3 ⟨rfl, hb1⟩
        have BA := BA.later hb1
        have hM := hM.later hb1
        have hbel := later hbel hb1
        clear hb1
        obtain ⟨p0, p1, p2, p3, p4, p5, _⟩ := _root_.id BA
        simp only [] at p0 p1 p2 p3 p4 p5
        go_wp2_with fail
        clear p0 p1 p2 p3 p4 p5
        go_ret
        exact ⟨rfl, hbel⟩
      | true =>
        rw [hok] at CK
        have EN := Lib.hid (fun w hM => encode x w hM hd)
        have SX := Lib.hid (fun w hM => slots x w hM hd)
        have sx := txnTips.slot_bd x hok
        have el := (enc_len x hok).1
        have ev : encV x = enc x := by unfold encV; rw [hok]; rfl
        rw [hok, ev] at EN
        obtain ⟨az, an, ap, ac, ag, ad⟩ := x
        have hz : (ad ++ more).size = ad.size + more.size := ByteArray.size_append
        simp only [] at hd hs el
        have hdu : (Tx.mk az an ap ac ag (ad ++ more)).d.size ≤ maxLen := by show (ad ++ more).size ≤ maxLen; rw [hz]; unfold maxLen; omega
        have SU := Lib.hid (fun w hM => slots ⟨az, an, ap, ac, ag, ad ++ more⟩ w hM hdu)
        have CU := Lib.hid (fun w hM => check ⟨az, an, ap, ac, ag, ad ++ more⟩ w hM)
        have e1 : decide (29 + (ad.size : Int) < ((enc ⟨az, an, ap, ac, ag, ad⟩).length : Int)) = false := by simp; omega
        have e2 : decide (((enc ⟨az, an, ap, ac, ag, ad⟩).length : Int) ≤ 29 + (ad.size : Int)) = true := by simp; omega
        cases hok2 : (Tx.mk az an ap ac ag (ad ++ more)).ok with
        | false =>
          rw [hok2] at CU
          generalize enc ⟨az, an, ap, ac, ag, ad⟩ = E at EN e1 e2 el
          simp only [Tx.val] at SM CK EN CU ⊢
          simp only [] at BA hM hbel
          have el2 : E.length ≤ 600 := by omega
          clear fx hd hok wm ev hdu hok2 el sx SX SU hz
          go_enter Tryd.func9, Tryd.ntmps9
          go_wp2_with fail
          generalize w.alloc (.cells #[.int .i64 az, .int .i64 an, .int .i64 ap, .int .i64 ac, .int .i64 ag, .string ad] 23 (0, 0)) = w0 at BA hM hbel ⊢
          refine (SM.out _).mono ?_
          rintro e w1 ⟨rfl, hb1⟩
          have BA := BA.later hb1
          have hM := hM.later hb1
          have hbel := later hbel hb1
          clear hb1
          obtain ⟨p0, p1, p2, p3, p4, p5, _⟩ := _root_.id BA
          simp only [] at p0 p1 p2 p3 p4 p5
          go_wp2_with fail
          clear p0 p1 p2 p3 p4 p5
          refine (CK.out _ hM).mono ?_
          rintro e w2 ⟨rfl, hb1⟩
          have BA := BA.later hb1
          have hM := hM.later hb1
          have hbel := later hbel hb1
          clear hb1
          obtain ⟨p0, p1, p2, p3, p4, p5, _⟩ := _root_.id BA
          simp only [] at p0 p1 p2 p3 p4 p5
          go_wp2_with fail
          clear p0 p1 p2 p3 p4 p5
          have BU := Box.own w2 ⟨az, an, ap, ac, ag, ad ++ more⟩ 23
          simp only [] at BU
          have hl : Below w2.heap.size w2 (w2.alloc (.cells #[.int .i64 az, .int .i64 an, .int .i64 ap, .int .i64 ac, .int .i64 ag, .string (ad ++ more)] 23 (0, 0))) := laid (Below.refl _ _) _
          have BA := BA.later hl
          have hM := hM.later hl
          have hbel := later hbel hl
          clear hl
          generalize w2.alloc (.cells #[.int .i64 az, .int .i64 an, .int .i64 ap, .int .i64 ac, .int .i64 ag, .string (ad ++ more)] 23 (0, 0)) = w2u at BA BU hM hbel ⊢
          refine (EN.out _ hM).mono ?_
          rintro e w3 ⟨rfl, hb1⟩
          have BA := BA.later hb1
          have BU := BU.later hb1
          have hM := hM.later hb1
          have hbel := later hbel hb1
          clear hb1
          obtain ⟨p0, p1, p2, p3, p4, p5, _⟩ := _root_.id BA
          obtain ⟨q0, q1, q2, q3, q4, q5, _⟩ := _root_.id BU
          simp only [] at p0 p1 p2 p3 p4 p5 q0 q1 q2 q3 q4 q5
          go_wp2_with fail
          clear p0 p1 p2 p3 p4 p5 q0 q1 q2 q3 q4 q5
          refine (CU.out _ hM).mono ?_
          rintro e w4 ⟨rfl, hb1⟩
          have BA := BA.later hb1
          have BU := BU.later hb1
          have hM := hM.later hb1
          have hbel := later hbel hb1
          clear hb1
          obtain ⟨p0, p1, p2, p3, p4, p5, _⟩ := _root_.id BA
          obtain ⟨q0, q1, q2, q3, q4, q5, _⟩ := _root_.id BU
          simp only [] at p0 p1 p2 p3 p4 p5 q0 q1 q2 q3 q4 q5
          go_wp2_with fail
          clear p0 p1 p2 p3 p4 p5 q0 q1 q2 q3 q4 q5
          refine (live_true _ hM).mono ?_
          rintro e w5 ⟨rfl, hb1⟩
          have BA := BA.later hb1
          have BU := BU.later hb1
          have hM := hM.later hb1
          have hbel := later hbel hb1
          clear hb1
          obtain ⟨p0, p1, p2, p3, p4, p5, _⟩ := _root_.id BA
          obtain ⟨q0, q1, q2, q3, q4, q5, _⟩ := _root_.id BU
          simp only [] at p0 p1 p2 p3 p4 p5 q0 q1 q2 q3 q4 q5
          go_wp2_with fail
          clear p0 p1 p2 p3 p4 p5 q0 q1 q2 q3 q4 q5
          go_ret
          exact ⟨rfl, hbel⟩
        | true =>
          rw [hok2] at CU
          have su := txnTips.slot_bd _ hok2
          obtain ⟨g1, g2⟩ := slots_grow az an ap ac ag ad more hok hok2
          generalize enc ⟨az, an, ap, ac, ag, ad⟩ = E at EN e1 e2 el sx
          generalize slotV ⟨az, an, ap, ac, ag, ad⟩ = sa at SX sx g1 g2
          generalize slotV ⟨az, an, ap, ac, ag, ad ++ more⟩ = sb at SU su g1 g2
          obtain ⟨x1, -, x3⟩ := sx
          obtain ⟨y1, -, y3⟩ := su
          have r1 : decide (sa ≤ sb) = true := by simp; omega
          have r2 : decide (32 * (sb - sa) < (more.size : Int) + 32) = true := by simp; omega
          simp only [Tx.val] at SM CK EN CU SX SU ⊢
          simp only [] at BA hM hbel
          have el2 : E.length ≤ 600 := by omega
          clear fx hd hok wm ev hdu hok2 el hz g1 g2
          go_enter Tryd.func9, Tryd.ntmps9
          go_wp2_with fail
          generalize w.alloc (.cells #[.int .i64 az, .int .i64 an, .int .i64 ap, .int .i64 ac, .int .i64 ag, .string ad] 23 (0, 0)) = w0 at BA hM hbel ⊢
          refine (SM.out _).mono ?_
          rintro e w1 ⟨rfl, hb1⟩
          have BA := BA.later hb1
          have hM := hM.later hb1
          have hbel := later hbel hb1
          clear hb1
          obtain ⟨p0, p1, p2, p3, p4, p5, _⟩ := _root_.id BA
          simp only [] at p0 p1 p2 p3 p4 p5
          go_wp2_with fail
          clear p0 p1 p2 p3 p4 p5
          refine (CK.out _ hM).mono ?_
          rintro e w2 ⟨rfl, hb1⟩
          have BA := BA.later hb1
          have hM := hM.later hb1
          have hbel := later hbel hb1
          clear hb1
          obtain ⟨p0, p1, p2, p3, p4, p5, _⟩ := _root_.id BA
          simp only [] at p0 p1 p2 p3 p4 p5
          go_wp2_with fail
          clear p0 p1 p2 p3 p4 p5
          have BU := Box.own w2 ⟨az, an, ap, ac, ag, ad ++ more⟩ 23
          simp only [] at BU
          have hl : Below w2.heap.size w2 (w2.alloc (.cells #[.int .i64 az, .int .i64 an, .int .i64 ap, .int .i64 ac, .int .i64 ag, .string (ad ++ more)] 23 (0, 0))) := laid (Below.refl _ _) _
          have BA := BA.later hl
          have hM := hM.later hl
          have hbel := later hbel hl
          clear hl
          generalize w2.alloc (.cells #[.int .i64 az, .int .i64 an, .int .i64 ap, .int .i64 ac, .int .i64 ag, .string (ad ++ more)] 23 (0, 0)) = w2u at BA BU hM hbel ⊢
          refine (EN.out _ hM).mono ?_
          rintro e w3 ⟨rfl, hb1⟩
          have BA := BA.later hb1
          have BU := BU.later hb1
          have hM := hM.later hb1
          have hbel := later hbel hb1
          clear hb1
          obtain ⟨p0, p1, p2, p3, p4, p5, _⟩ := _root_.id BA
          obtain ⟨q0, q1, q2, q3, q4, q5, _⟩ := _root_.id BU
          simp only [] at p0 p1 p2 p3 p4 p5 q0 q1 q2 q3 q4 q5
          go_wp2_with fail
          clear p0 p1 p2 p3 p4 p5 q0 q1 q2 q3 q4 q5
          refine (CU.out _ hM).mono ?_
          rintro e w4 ⟨rfl, hb1⟩
          have BA := BA.later hb1
          have BU := BU.later hb1
          have hM := hM.later hb1
          have hbel := later hbel hb1
          clear hb1
          obtain ⟨p0, p1, p2, p3, p4, p5, _⟩ := _root_.id BA
          obtain ⟨q0, q1, q2, q3, q4, q5, _⟩ := _root_.id BU
          simp only [] at p0 p1 p2 p3 p4 p5 q0 q1 q2 q3 q4 q5
          go_wp2_with fail
          clear p0 p1 p2 p3 p4 p5 q0 q1 q2 q3 q4 q5
          refine (SX.out _ hM).mono ?_
          rintro e w5 ⟨rfl, hb1⟩
          have BA := BA.later hb1
          have BU := BU.later hb1
          have hM := hM.later hb1
          have hbel := later hbel hb1
          clear hb1
          obtain ⟨p0, p1, p2, p3, p4, p5, _⟩ := _root_.id BA
          obtain ⟨q0, q1, q2, q3, q4, q5, _⟩ := _root_.id BU
          simp only [] at p0 p1 p2 p3 p4 p5 q0 q1 q2 q3 q4 q5
          go_wp2_with fail
          clear p0 p1 p2 p3 p4 p5 q0 q1 q2 q3 q4 q5
          refine (SU.out _ hM).mono ?_
          rintro e w6 ⟨rfl, hb1⟩
          have BA := BA.later hb1
          have BU := BU.later hb1
          have hM := hM.later hb1
          have hbel := later hbel hb1
          clear hb1
          obtain ⟨p0, p1, p2, p3, p4, p5, _⟩ := _root_.id BA
          obtain ⟨q0, q1, q2, q3, q4, q5, _⟩ := _root_.id BU
          simp only [] at p0 p1 p2 p3 p4 p5 q0 q1 q2 q3 q4 q5
          go_wp2_with fail
          clear p0 p1 p2 p3 p4 p5 q0 q1 q2 q3 q4 q5
          refine (live_true _ hM).mono ?_
          rintro e w7 ⟨rfl, hb1⟩
          have BA := BA.later hb1
          have BU := BU.later hb1
          have hM := hM.later hb1
          have hbel := later hbel hb1
          clear hb1
          obtain ⟨p0, p1, p2, p3, p4, p5, _⟩ := _root_.id BA
          obtain ⟨q0, q1, q2, q3, q4, q5, _⟩ := _root_.id BU
          simp only [] at p0 p1 p2 p3 p4 p5 q0 q1 q2 q3 q4 q5
          go_wp2_with fail
          clear p0 p1 p2 p3 p4 p5 q0 q1 q2 q3 q4 q5
          go_ret
          exact ⟨rfl, hbel⟩
    · have d1 : decide (256 < (more.size : Int)) = true := by simp; omega
      obtain ⟨az, an, ap, ac, ag, ad⟩ := x
      simp only [Tx.val] at SM ⊢
      simp only [] at BA hM hbel
      clear fx hd hs hmo wm CK
      go_enter Tryd.func9, Tryd.ntmps9
      go_wp2_with fail
      generalize w.alloc (.cells #[.int .i64 az, .int .i64 an, .int .i64 ap, .int .i64 ac, .int .i64 ag, .string ad] 23 (0, 0)) = w0 at BA hM hbel ⊢
      refine (SM.out _).mono ?_
      rintro e w1 ⟨rfl, hb1⟩
      have BA := BA.later hb1
      have hM := hM.later hb1
      have hbel := later hbel hb1
      clear hb1
      obtain ⟨p0, p1, p2, p3, p4, p5, _⟩ := _root_.id BA
      simp only [] at p0 p1 p2 p3 p4 p5
      go_wp2_with fail
      clear p0 p1 p2 p3 p4 p5
      refine (live_true _ hM).mono ?_
      rintro e w2 ⟨rfl, hb1⟩
      have BA := BA.later hb1
      have hM := hM.later hb1
      have hbel := later hbel hb1
      clear hb1
      obtain ⟨p0, p1, p2, p3, p4, p5, _⟩ := _root_.id BA
      simp only [] at p0 p1 p2 p3 p4 p5
      go_wp2_with fail
      clear p0 p1 p2 p3 p4 p5
      go_ret
      exact ⟨rfl, hbel⟩
  · rw [decide_eq_false hs] at SM
    obtain ⟨az, an, ap, ac, ag, ad⟩ := x
    simp only [Tx.val] at SM ⊢
    simp only [] at BA hM hbel
    clear fx hd hs wm CK
    go_enter Tryd.func9, Tryd.ntmps9
    go_wp2_with fail
    generalize w.alloc (.cells #[.int .i64 az, .int .i64 an, .int .i64 ap, .int .i64 ac, .int .i64 ag, .string ad] 23 (0, 0)) = w0 at BA hM hbel ⊢
    refine (SM.out _).mono ?_
    rintro e w1 ⟨rfl, hb1⟩
    have BA := BA.later hb1
    have hM := hM.later hb1
    have hbel := later hbel hb1
    clear hb1
    obtain ⟨p0, p1, p2, p3, p4, p5, _⟩ := _root_.id BA
    simp only [] at p0 p1 p2 p3 p4 p5
    go_wp2_with fail
    clear p0 p1 p2 p3 p4 p5
    refine (live_true _ hM).mono ?_
    rintro e w2 ⟨rfl, hb1⟩
    have BA := BA.later hb1
    have hM := hM.later hb1
    have hbel := later hbel hb1
    clear hb1
    obtain ⟨p0, p1, p2, p3, p4, p5, _⟩ := _root_.id BA
    simp only [] at p0 p1 p2 p3 p4 p5
    go_wp2_with fail
    clear p0 p1 p2 p3 p4 p5
    go_ret
    exact ⟨rfl, hbel⟩
end Go.Proofs.YtfhbcnomlgiciaaDoor.txnSlots
