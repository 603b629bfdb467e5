/- Layer 3 of the document's own answer (hopperref03.TakeNumber), by contract. -/
import Derived.Test.YtofpmnkkimgkfaaDoorKCodecRefTake
import Derived.Deep.RegionHeld3
set_option linter.all false
set_option maxHeartbeats 4000000
set_option maxRecDepth 100000
namespace Go.Proofs.YtofpmnkkimgkfaaDoor.codec
open Go.RowKit
theorem rnum_empty (s : ByteArray) (m : Int) (h : s.size = 0) (w : World) :
  Calls Tryd.prog 60 #[.string s, .int .i64 m] w fun e w' => e = .returned (retNum none) ∧ w = w' := by
 have T : decide ((s.size : Int) < 1) = true := by simp; omega
 have hs : s.size ≤ 10 := by omega
 clear h
 go_enter Tryd.func60, Tryd.ntmps60
 go_wp2_with fail
 go_ret3
 exact ⟨rfl, rfl⟩
theorem rnum_size (s : ByteArray) (m : Int) (b : UInt8) (r : List UInt8) (e : Hid (s.data.toList = b :: r)) (hs : s.size = r.length + 1) (hs2 : s.size ≤ maxLen) (h : b.toNat < 1 ∨ 8 < b.toNat ∨ r.length < b.toNat) (w : World) :
  Calls Tryd.prog 60 #[.string s, .int .i64 m] w fun e w' => e = .returned (retNum none) ∧ Below w.heap.size w w' := by
 have T : decide ((s.size : Int) < 1) = false := by simp; omega
 have i0 := str_at s 0 0 rfl b (by rw [e.out]; rfl)
 have hb : (b.toNat : Int) ≤ 255 := by have := b.toNat_lt; omega
 unfold maxLen at hs2
 have h' : b.toNat < 1 ∨ (¬ b.toNat < 1 ∧ 8 < b.toNat) ∨ (¬ b.toNat < 1 ∧ ¬ 8 < b.toNat ∧ r.length < b.toNat) := by omega
 clear h
 rcases h' with h1 | ⟨h1, h2⟩ | ⟨h1, h2, h3⟩
 ·have M1 : decide ((b.toNat : Int) < 1) = true := by simp; omega
  clear h1 hs
  go_enter Tryd.func60, Tryd.ntmps60
  go_wp2_with fail
  go_ret3
  exact ⟨rfl, Below.refl _ _⟩
 ·have M1 : decide ((b.toNat : Int) < 1) = false := by simp; omega
  have M2 : decide (8 < (b.toNat : Int)) = true := by simp; omega
  clear h1 h2 hs
  go_enter Tryd.func60, Tryd.ntmps60
  go_wp2_with fail
  go_ret3
  exact ⟨rfl, Below.refl _ _⟩
 ·have M1 : decide ((b.toNat : Int) < 1) = false := by simp; omega
  have M2 : decide (8 < (b.toNat : Int)) = false := by simp; omega
  have M3 : decide ((s.size : Int) - 1 < (b.toNat : Int)) = true := by simp; omega
  clear h1 h2 h3 hs
  go_enter Tryd.func60, Tryd.ntmps60
  go_wp2_with fail
  go_ret3
  exact ⟨rfl, Below.refl _ _⟩
theorem rnum_high (s : ByteArray) (m : Int) (b c : UInt8) (r : List UInt8) (e : Hid (s.data.toList = b :: c :: r)) (hs : s.size = r.length + 2) (hs2 : s.size ≤ maxLen) (h8 : b.toNat = 8) (hl : b.toNat ≤ r.length + 1) (hc : 127 < c.toNat) (w : World) :
  Calls Tryd.prog 60 #[.string s, .int .i64 m] w fun e w' => e = .returned (retNum none) ∧ Below w.heap.size w w' := by
 have T : decide ((s.size : Int) < 1) = false := by simp; omega
 have i0 := str_at s 0 0 rfl b (by rw [e.out]; rfl)
 have i1 := str_at s 1 1 rfl c (by rw [e.out]; rfl)
 unfold maxLen at hs2
 have hb : (b.toNat : Int) = 8 := by omega
 rw [hb] at i0
 have M3 : decide ((s.size : Int) - 1 < 8) = false := by simp; omega
 have M4 : decide (127 < (c.toNat : Int)) = true := by simp; omega
 clear hs h8 hl hc hb
 go_enter Tryd.func60, Tryd.ntmps60
 go_wp2_with fail
 go_ret3
 exact ⟨rfl, Below.refl _ _⟩
theorem rest_at (s : ByteArray) (b : UInt8) (r : List UInt8) (e : Hid (s.data.toList = b :: r)) (k : Nat) (hk : k < r.length) (w : World) :
  (Instr.index 9 (.string s) (.int .i64 ((k : Int) + 1))).run Tryd.prog w = .ok (.int .u8 r[k].toNat) w :=
 str_at s (k + 1) _ (by omega) r[k] (by rw [e.out]; simp [hk]) w
theorem rnum_in (s : ByteArray) (m : Int) (b : UInt8) (r : List UInt8) (v : Nat) (e : Hid (s.data.toList = b :: r)) (hs : s.size = r.length + 1) (hs2 : s.size ≤ maxLen) (h1 : 1 ≤ b.toNat) (h8 : b.toNat ≤ 8) (hl : b.toNat ≤ r.length) (hv : Hid (whole (r.take b.toNat) = v)) (hv2 : v < 9223372036854775808) (w : World) :
  Calls Tryd.prog 60 #[.string s, .int .i64 m] w fun e w' => e = .returned (retNum (if size v = b.toNat ∧ (v : Int) ≤ m then some (v, r.drop b.toNat) else none)) ∧ Below w.heap.size w w' := by
 have T : decide ((s.size : Int) < 1) = false := by simp; omega
 have i0 := str_at s 0 0 rfl b (by rw [e.out]; rfl)
 have R := rest_at s b r e
 have E := Lib.hid e.out
 have TT : ∀ u, whole (r.take b.toNat) = u → (num u = b :: r.take b.toNat ↔ size u = b.toNat) := by
  rintro u rfl
  have hlen : (r.take b.toNat).length = b.toNat := by rw [List.length_take]; omega
  have := num_test b (r.take b.toNat) hlen.symm (by omega)
  rwa [hlen] at this
 clear e
 generalize b.toNat = k8 at i0 h1 h8 hl hv TT ⊢
 unfold maxLen at hs2
 have M1 : decide ((k8 : Int) < 1) = false := by simp; omega
 have M2 : decide (8 < (k8 : Int)) = false := by simp; omega
 have M3 : decide ((s.size : Int) - 1 < (k8 : Int)) = false := by simp; omega
 have HS := Lib.hid hs
 clear hs
 obtain ⟨V, HV⟩ : ∃ V, Hid (V = retNum (if size v = k8 ∧ (v : Int) ≤ m then some (v, r.drop k8) else none)) := ⟨_, Lib.hid rfl⟩
 rw [← HV.out]
 have D : (((k8 : Int) == 8) = true ∧ ∃ c : UInt8, (∀ w : World, (Instr.index 9 (.string s) (.int .i64 1)).run Tryd.prog w = .ok (.int .u8 c.toNat) w) ∧ decide (127 < (c.toNat : Int)) = false) ∨ ((k8 : Int) == 8) = false := by
  by_cases c8 : k8 = 8
  ·refine Or.inl ⟨by simp; omega, ?_⟩
   subst c8
   match r, hl with
   | [], hl => simp at hl
   | c :: t, hl =>
    refine ⟨c, str_at s 1 1 rfl c (by rw [E.out]; rfl), ?_⟩
    have h7 : (t.take 7).length = 7 := by rw [List.length_take]; simp at hl; omega
    have := (whole_eight c (t.take 7) h7).1 (by have := hv.out; rw [List.take_succ_cons] at this; omega)
    simp
    omega
  ·exact Or.inr (by simp; omega)
 rcases D with ⟨M4, c, i1, Mc⟩ | M4
 all_goals
  go_enter Tryd.func60, Tryd.ntmps60
  go_wp2_with fail
  go_loop [8, 9] (fun x i => ∃ (k u : Nat), k ≤ k8 ∧ i = .int .i64 ((k : Int) + 1) ∧ x = .int .i64 u ∧ Hid (u = whole (r.take k))) (fun _ i => k8 + 1 - (intOf i).toNat)
  case atStart => exact ⟨0, 0, by omega, rfl, rfl, Lib.hid rfl⟩
  case round =>
   obtain ⟨k, u, hk, rfl, rfl, hu⟩ := hrel
   by_cases hlt : k < k8
   ·have X := R k (by omega)
    have N := Lib.hid (whole_take_succ r k (by omega))
    have hB : 256 * (u : Int) + (r[k].toNat : Int) ≤ 9223372036854775807 := by
     have := whole_take_le r (k + 1) k8 (by omega)
     have := N.out
     have := hu.out
     have := hv.out
     omega
    have hc : (r[k].toNat : Int) ≤ 255 := by have := r[k].toNat_lt; omega
    generalize r[k] = c at X N hB hc
    have M5 : decide ((k : Int) + 1 ≤ (k8 : Int)) = true := by simp; omega
    clear R
    go_wp2_with fail
    go_round
    case rel => exact ⟨k + 1, 256 * u + c.toNat, by omega, by go_num, by go_num, Lib.hid (by rw [N.out, ← hu.out]; omega)⟩
    case measure => simp [intOf]; omega
   ·have M5 : decide ((k : Int) + 1 ≤ (k8 : Int)) = false := by simp; omega
    have ev : u = v := by
     have := hu.out
     have := hv.out
     have e : k = k8 := by omega
     subst e
     omega
    subst ev
    clear R hlt
    have hw : IntKind.i64.wrap ((k8 : Int) + 1) = ((k8 + 1 : Nat) : Int) := by
     simp [IntKind.wrap, IntKind.signed, IntKind.bits]
     omega
    have S1 := str_to s (k8 + 1) (IntKind.i64.wrap ((k8 : Int) + 1)) hw (by have := HS.out; omega)
    rw [E.out, List.take_succ_cons] at S1
    have C := Lib.hid (rnumber u hv2)
    by_cases ct : size u = k8
    ·rw [(TT u hv.out).2 ct] at C
     by_cases cm : (u : Int) ≤ m
     ·have M6 : decide (m < (u : Int)) = false := by simp; omega
      have HV := Lib.hid (HV.out.trans (by rw [if_pos ⟨ct, cm⟩]))
      have S2 := str_from s (k8 + 1) (IntKind.i64.wrap ((k8 : Int) + 1)) hw (by have := HS.out; omega)
      rw [E.out, List.drop_succ_cons] at S2
      clear hw TT ct cm
      go_wp2_with fail
      go_region_held3 (fun w' => Below w.heap.size w w')
       (first | assumption | (exact Below.drew (by assumption)) | (exact later (by assumption) (by assumption)) | (exact Below.refl _ _) | (exact (Below.refl _ _).drew) | go_keep)
       (first
        | (go_at_call 48; refine (C.out _).mono ?_; rintro e w1 ⟨rfl, hb1⟩)
        | fail)
      have hf : Below w.heap.size w w1 := by assumption
      go_wp2_with fail
      go_quiet (fail)
      go_wp2_with fail
      go_ret3
      exact ⟨by rw [HV.out]; rfl, drawn hf _⟩
     ·have M6 : decide (m < (u : Int)) = true := by simp; omega
      have HV := Lib.hid (HV.out.trans (by rw [if_neg (fun c => cm c.2)]))
      clear hw TT ct cm
      go_wp2_with fail
      go_region_held3 (fun w' => Below w.heap.size w w')
       (first | assumption | (exact Below.drew (by assumption)) | (exact later (by assumption) (by assumption)) | (exact Below.refl _ _) | (exact (Below.refl _ _).drew) | go_keep)
       (first
        | (go_at_call 48; refine (C.out _).mono ?_; rintro e w1 ⟨rfl, hb1⟩)
        | fail)
      have hf : Below w.heap.size w w1 := by assumption
      go_wp2_with fail
      go_ret3
      exact ⟨by rw [HV.out]; rfl, hf⟩
    ·have hne : num u ≠ b :: r.take k8 := fun c => ct ((TT u hv.out).1 c)
     have HV := Lib.hid (HV.out.trans (by rw [if_neg (fun c => ct c.1)]))
     generalize num u = L at C hne
     have hB : (L == b :: r.take k8) = false := by simpa using hne
     clear hw TT ct hne
     go_wp2_with fail
     refine wp_region_noPanic ?_
     refine wp_region_held_drew (S := fun w' => Below w.heap.size w w') (by kernel_rfl) (Below.refl _ _).drew (fun hHeld => ?_)
     refine wpAnyH_take (i := 0) (v := ?_) rfl (by kernel_rfl) (by kernel_rfl) (by kernel_rfl) (fun _ _ _ h => h) (Or.inl ⟨rfl, ?_⟩) (by assumption) ?_
     rotate_left
     ·intro w hSw
      go_simp
      try with_reducible rfl
     try simp only [Act.put, List.setIfInBounds_toArray, List.getElem_toArray, List.getElem_cons_zero, List.getElem_cons_succ, List.set_cons_zero, List.set_cons_succ]
     refine wpAnyH_take (i := 2) (v := ?_) rfl (by kernel_rfl) (by kernel_rfl) (by kernel_rfl) (fun _ _ _ h => h) (Or.inl ⟨rfl, ?_⟩) (by assumption) ?_
     rotate_left
     ·intro w hSw
      go_simp
      try with_reducible rfl
     try simp only [Act.put, List.setIfInBounds_toArray, List.getElem_toArray, List.getElem_cons_zero, List.getElem_cons_succ, List.set_cons_zero, List.set_cons_succ]
     refine wpAnyH_take (i := 3) (v := ?_) rfl (by kernel_rfl) (by kernel_rfl) (by kernel_rfl) (fun _ _ _ h => h) (Or.inl ⟨rfl, ?_⟩) (by assumption) ?_
     rotate_left
     ·intro w hSw
      go_simp
      try with_reducible rfl
     try simp only [Act.put, List.setIfInBounds_toArray, List.getElem_toArray, List.getElem_cons_zero, List.getElem_cons_succ, List.set_cons_zero, List.set_cons_succ]
     refine wpAnyH_take (i := 4) (v := ?_) rfl (by kernel_rfl) (by kernel_rfl) (by kernel_rfl) (fun _ _ _ h => h) (Or.inl ⟨rfl, ?_⟩) (by assumption) ?_
     rotate_left
     ·intro w hSw
      go_simp
      try with_reducible rfl
     try simp only [Act.put, List.setIfInBounds_toArray, List.getElem_toArray, List.getElem_cons_zero, List.getElem_cons_succ, List.set_cons_zero, List.set_cons_succ]
     refine wpAnyH_take (i := 5) (v := ?_) rfl (by kernel_rfl) (by kernel_rfl) (by kernel_rfl) (fun _ _ _ h => h) (Or.inl ⟨rfl, ?_⟩) (by assumption) ?_
     rotate_left
     ·intro w hSw
      go_simp
      try with_reducible rfl
     try simp only [Act.put, List.setIfInBounds_toArray, List.getElem_toArray, List.getElem_cons_zero, List.getElem_cons_succ, List.set_cons_zero, List.set_cons_succ]
     refine wpAnyH_ready (rs := [1]) (by kernel_rfl) (by simp) ?_
     refine AllReadyH.cons rfl (fun K hK => ?_) AllReadyH.nil
     go_simp
     refine (C.out _).mono ?_; rintro e w1 ⟨rfl, hb1⟩
     go_wp2_with fail
     refine hK.out _ _ (later (by assumption) hb1) (fun hHeld => ?_)
     clear hK K
     try simp only [Act.put, List.setIfInBounds_toArray, List.getElem_toArray, List.getElem_cons_zero, List.getElem_cons_succ, List.set_cons_zero, List.set_cons_succ]
     refine wpAnyH_take (i := 6) (v := ?_) rfl (by kernel_rfl) (by kernel_rfl) (by kernel_rfl) (fun _ _ _ h => h) (Or.inl ⟨rfl, ?_⟩) (by assumption) ?_
     rotate_left
     ·intro w hSw
      go_simp
      try with_reducible rfl
     try simp only [Act.put, List.setIfInBounds_toArray, List.getElem_toArray, List.getElem_cons_zero, List.getElem_cons_succ, List.set_cons_zero, List.set_cons_succ]
     refine wpAnyH_take (i := 7) (v := ?_) rfl (by kernel_rfl) (by kernel_rfl) (by kernel_rfl) (fun _ _ _ h => h) (Or.inl ⟨rfl, ?_⟩) (by assumption) ?_
     rotate_left
     ·intro w hSw
      go_simp
      try with_reducible rfl
     try simp only [Act.put, List.setIfInBounds_toArray, List.getElem_toArray, List.getElem_cons_zero, List.getElem_cons_succ, List.set_cons_zero, List.set_cons_succ]
     refine wpAnyH_take (i := 8) (v := undef) rfl (by kernel_rfl) (by kernel_rfl) (by kernel_rfl) (fun _ _ _ h => h) (Or.inr ⟨rfl, rfl⟩) (by assumption) ?_
     try simp only [Act.put, List.setIfInBounds_toArray, List.getElem_toArray, List.getElem_cons_zero, List.getElem_cons_succ, List.set_cons_zero, List.set_cons_succ]
     refine wpAnyH_take (i := 9) (v := undef) rfl (by kernel_rfl) (by kernel_rfl) (by kernel_rfl) (fun _ _ _ h => h) (Or.inr ⟨rfl, rfl⟩) (by assumption) ?_
     try simp only [Act.put, List.setIfInBounds_toArray, List.getElem_toArray, List.getElem_cons_zero, List.getElem_cons_succ, List.set_cons_zero, List.set_cons_succ]
     refine wpAnyH_take (i := 10) (v := undef) rfl (by kernel_rfl) (by kernel_rfl) (by kernel_rfl) (fun _ _ _ h => h) (Or.inr ⟨rfl, rfl⟩) (by assumption) ?_
     try simp only [Act.put, List.setIfInBounds_toArray, List.getElem_toArray, List.getElem_cons_zero, List.getElem_cons_succ, List.set_cons_zero, List.set_cons_succ]
     refine wpAnyH_take (i := 11) (v := ?_) rfl (by kernel_rfl) (by kernel_rfl) (by kernel_rfl) (fun _ _ _ h => h) (Or.inl ⟨rfl, ?_⟩) (by assumption) ?_
     rotate_left
     ·intro w hSw
      go_simp
      try with_reducible rfl
     try simp only [Act.put, List.setIfInBounds_toArray, List.getElem_toArray, List.getElem_cons_zero, List.getElem_cons_succ, List.set_cons_zero, List.set_cons_succ]
     refine wpAnyH_done (by kernel_rfl) (NoPanic.normal ?_) _
     have hf : Below w.heap.size w w1 := by assumption
     go_wp2_with fail
     go_ret3
     exact ⟨by rw [HV.out]; rfl, hf⟩
theorem rtakenum_any (s : ByteArray) (m : Int) (w : World) (hs : s.size ≤ maxLen) :
  Calls Tryd.prog 60 #[.string s, .int .i64 m] w fun e w' => e = .returned (retNum (takeNum s.data.toList m)) ∧ Below w.heap.size w w' := by
 have hsz : s.data.toList.length = s.size := by simp
 match hl : s.data.toList with
 | [] =>
  rw [hl] at hsz
  exact (rnum_empty s m (by simp at hsz; omega) w).mono fun e w' ⟨he, hw⟩ => ⟨he, hw ▸ Below.refl _ _⟩
 | b :: r =>
  rw [hl] at hsz
  have hz : s.size = r.length + 1 := by simp at hsz; omega
  simp only [takeNum]
  by_cases c1 : b.toNat < 1 ∨ 8 < b.toNat ∨ r.length < b.toNat
  ·rw [if_neg (by omega)]
   exact rnum_size s m b r (Lib.hid hl) hz hs c1 w
  ·by_cases c2 : whole (r.take b.toNat) < 9223372036854775808
   ·have e : (1 ≤ b.toNat ∧ b.toNat ≤ 8 ∧ b.toNat ≤ r.length ∧ size (whole (r.take b.toNat)) = b.toNat ∧ whole (r.take b.toNat) < 9223372036854775808 ∧ (whole (r.take b.toNat) : Int) ≤ m) ↔ (size (whole (r.take b.toNat)) = b.toNat ∧ (whole (r.take b.toNat) : Int) ≤ m) :=
     ⟨fun ⟨_, _, _, h, _, h'⟩ => ⟨h, h'⟩, fun ⟨h, h'⟩ => ⟨by omega, by omega, by omega, h, c2, h'⟩⟩
    simp only [e]
    exact rnum_in s m b r _ (Lib.hid hl) hz hs (by omega) (by omega) (by omega) (Lib.hid rfl) c2 w
   ·rw [if_neg (fun c => c2 c.2.2.2.2.1)]
    have h8 : b.toNat = 8 := by
     rcases Nat.lt_or_ge b.toNat 8 with g | g
     ·exact absurd (whole_seven (r.take b.toNat) (by rw [List.length_take]; omega)) c2
     ·omega
    match r, hz, c1, c2, hl with
    | [], _, c1, _, _ => simp at c1; omega
    | c :: t, hz, c1, c2, hl =>
     have hlen : (c :: t).length = t.length + 1 := rfl
     have h7 : (t.take 7).length = 7 := by rw [List.length_take]; omega
     refine rnum_high s m b c t (Lib.hid hl) (by omega) hs h8 (by omega) ?_ w
     rw [h8, List.take_succ_cons, whole_eight c (t.take 7) h7] at c2
     omega
end Go.Proofs.YtofpmnkkimgkfaaDoor.codec
