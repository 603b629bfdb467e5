/- The walk of hopperlaw09.LockFirst. -/
import Derived.Test.YtjeghmlingfnjaaLockLive
namespace Go.Proofs.Ytjeghmlingfnjaa.lockFirst
open Go.RowKit Sx lock
set_option linter.unusedVariables false
set_option linter.unusedSimpArgs false
theorem first_le (l : List Int) (who : Int) : firstV l who ≤ l.length := by
  have := srch_le (lackP l who) l.length 0
  unfold firstV
  omega
theorem first_not (l : List Int) (who : Int) (hw : decide (who ≥ 1) = true) (j : Nat) (h : j < firstV l who) : at_ l j = who := by
  have := srch_not (lackP l who) l.length 0 j (Nat.zero_le _) h
  unfold lackP holdsB at this
  rw [hw] at this
  simpa using this
theorem first_is (l : List Int) (who : Int) (hw : decide (who ≥ 1) = true) (h : firstV l who < l.length) : at_ l (firstV l who : Nat) ≠ who := by
  have := srch_is (lackP l who) l.length 0 (by unfold firstV at h; omega)
  unfold lackP holdsB at this
  rw [hw] at this
  intro e
  have e2 : lackP l who (firstV l who) = true := srch_is (lackP l who) l.length 0 (by unfold firstV at h; omega)
  unfold lackP holdsB at e2
  rw [hw, e] at e2
  simp at e2
theorem held_all (l : List Int) (who : Int) (hw : decide (who ≥ 1) = true) : (decide ((heldV l who).length = l.length)) = decide (firstV l who = l.length) := by
  rw [Bool.eq_iff_iff, decide_eq_true_iff, decide_eq_true_iff]
  have full : ∀ k, (ups (holdP l who) k).length = k ↔ ∀ j, j < k → holdP l who j = true := by
    intro k
    induction k with
    | zero => simp [ups]
    | succ k ih =>
      have hle := ups_le (holdP l who) k
      rw [ups_succ]
      cases hp : holdP l who k with
      | true =>
        simp only [cond_true, List.length_append, List.length_singleton]
        constructor
        · intro h j hj
          by_cases e : j = k
          · rw [e, hp]
          · exact ih.1 (by omega) j (by omega)
        · intro h
          rw [ih.2 (fun j hj => h j (by omega))]
      | false =>
        simp only [cond_false]
        constructor
        · intro h; omega
        · intro h
          have := h k (by omega)
          rw [hp] at this
          cases this
  unfold heldV
  rw [full l.length]
  have hle := first_le l who
  constructor
  · intro h
    rcases Nat.lt_or_ge (firstV l who) l.length with h1 | h1
    · have h2 := first_is l who hw h1
      have h3 := h _ h1
      unfold holdP holdsB at h3
      rw [hw] at h3
      exact absurd (by simpa using h3) h2
    · omega
  · intro h j hj
    have := first_not l who hw j (by omega)
    unfold holdP holdsB
    rw [hw, this]
    simp
theorem all_first (l : List Int) (who : Int) (hw : decide (who ≥ 1) = true) (h : firstV l who = l.length) (m : List Int) : True := trivial
/-- Whoever takes the first one that he lacks lacks a later one then. -/
theorem first_more (l : List Int) (who : Int) (hw : decide (who ≥ 1) = true) (h : firstV l who < l.length) : firstV l who + 1 ≤ firstV (withV l (firstV l who : Nat) who) who := by
  have hl : (withV l (firstV l who : Nat) who).length = l.length := with_length _ _ _
  have hle := first_le (withV l (firstV l who : Nat) who) who
  rw [hl] at hle
  rcases Nat.lt_or_ge (firstV l who) (firstV (withV l (firstV l who : Nat) who) who) with h1 | h1
  · exact h1
  · exfalso
    have h2 := first_is (withV l (firstV l who : Nat) who) who hw (by rw [hl]; omega)
    apply h2
    generalize hk : firstV (withV l (firstV l who : Nat) who) who = k at *
    by_cases e : k = firstV l who
    · rw [e]
      simp [at_, withV, h]
    · have h3 := first_not l who hw k (by omega)
      unfold at_ withV at *
      rw [List.getElem?_set, if_neg (by simp; omega)]
      exact h3
set_option maxHeartbeats 4000000 in
set_option maxRecDepth 100000 in
theorem walk (a : Option Addr) (n c : Nat) (l : List Int) (who : Int) (w : World) (hl : Sl a n c ∧ n = l.length ∧ At w (pt a n) (ic l) ∧ ∀ z ∈ l, Fits z) (hw : Fits who) : Calls Try.prog 10 (List.toArray [.slice a n c, .int .i64 who]) w fun e w' =>  e = .returned (.bool true) ∧ Below w.heap.size w w' := by
  obtain ⟨hs, hn, hrow, hf⟩ := hl
  have hn63 := hs.le
  refine calls_of_exec env_ok Try.func10 rfl [] (by kernel_rfl) [rowF (pt a n) (ic l)] (at1 hrow) ?_
  (conv => arg 5; whnf)
  refine wp_g0 (fun h => ?_) (fun h => ?_)
  · (conv => arg 5; whnf)
    refine wp_br (fun h1 => ?_) (fun h1 => ?_)
    · (conv => arg 5; whnf)
      refine meetc (f := 29) (v := .bool true) rfl (by kernel_rfl) (fun β ρ w' hM' => live w') ?_
      (conv => arg 5; whnf)
      exact wp_back fun β ρ w' hM' => ⟨rfl, hM'.below⟩
    · have hl : l.length ≤ 1000000 := by simp at h; omega
      have hl60 : l.length ≤ 60 := by simp at h; omega
      have hw1 : decide (who ≥ 1) = true := by simp at h1 ⊢; omega
      have f1 := first_le l who
      have f2 := first_not l who hw1
      have f3 := first_is l who hw1
      have f4 := held_all l who hw1
      have hhl := ups_le (holdP l who) l.length
      have HH := fun (w : World) hrow => held l a n c w who hs hn hrow hl
      have HF := fun (w : World) hrow => first l a n c w who hs hn hrow
      rw [show ups (holdP l who) l.length = heldV l who from rfl] at hhl
      generalize heldV l who = hv at *
      generalize hkf : firstV l who = kf at *
      have hne : ∀ w, (do eqGuard .neq 4 (.tmp 53) (.tmp 57) (.bool (((hv.length : Nat) : Int) == ((n : Nat) : Int))) (.bool (((kf : Nat) : Int) == ((n : Nat) : Int))); pure (Next.value (← binOp .neq 4 (.bool (((hv.length : Nat) : Int) == ((n : Nat) : Int))) (.bool (((kf : Nat) : Int) == ((n : Nat) : Int))))) : Sem Next).run Try.prog w = .ok (.value (.bool false)) w := fun w => by
        have e1 : (((hv.length : Nat) : Int) == ((n : Nat) : Int)) = decide (hv.length = l.length) := by rw [Bool.eq_iff_iff]; simp; omega
        have e2 : (((kf : Nat) : Int) == ((n : Nat) : Int)) = decide (kf = l.length) := by rw [Bool.eq_iff_iff]; simp; omega
        rw [e1, e2, f4]
        cases decide (kf = l.length) <;> rfl
      (conv => arg 5; whnf)
      refine meetc (f := 41) (v := .int .i64 (kf : Nat)) rfl (by kernel_rfl) (fun β ρ w' hM' => HF w' (hM'.at_ (.head _))) ?_
      (conv => arg 5; whnf)
      refine wp_g0 (fun _ => ?_) (fun h => absurd h (by simp; omega))
      (conv => arg 5; whnf)
      refine wp_g1 (fun g1 => ?_) (fun g1 => ?_)
      · have hkn : kf < n := by simp at g1; omega
        have hat := f3 (by omega)
        (conv => arg 5; whnf)
        refine wp_must ⟨by omega, by omega, hs.some hkn⟩ ?_
        (conv => arg 5; whnf)
        refine readP (.int .i64 (at_ l kf)) rfl (.head _) (show kf < n by omega) (hs.some (show kf < n by omega)) (ic_get (at_get (i := kf) (by omega))) (j := kf) (by simp) ?_
        (conv => arg 5; whnf)
        refine wp_g0 (fun _ => ?_) (fun h => absurd h (by simpa using hat))
        (conv => arg 5; whnf)
        refine meet1 (f := 39) (n := hv.length) (v := fun a1 c1 => .slice a1 hv.length c1) (xs := ic hv) rfl (by kernel_rfl) (fun β ρ w' hM' => HH w' (hM'.at_ (.head _))) (fun a2 c_a2 h_a2 => ?_)
        (conv => arg 5; whnf)
        refine wp_prim (.bool false) (fun w => hne w) ?_
        (conv => arg 5; whnf)
        refine loop_rule env_ok [] (by kernel_rfl) (fun k : Nat => k ≤ kf) (fun k => (⟨[], [], [rowF (pt a2 hv.length) (ic hv), rowF (pt a n) (ic l)]⟩, sl 116 [(0, .v (.slice a n c)), (1, .v (.int .i64 who)), (4, .v (.bool false)), (5, .v (.slice a n c)), (6, .v (.int .i64 (kf : Nat))), (7, .v (.int .i64 (k : Nat)))])) (fun k => kf - k) 0 (Nat.zero_le _) ⟨by repeat' first | exact trivial | refine ⟨.inl rfl, ?_⟩ | refine ⟨.inr rfl, ?_⟩, ⟨by repeat' first | exact trivial | refine ⟨.inl rfl, ?_⟩ | refine ⟨.inr rfl, ?_⟩, by repeat' first | exact trivial | refine ⟨.inl rfl, ?_⟩ | refine ⟨.inr rfl, ?_⟩, fun _ h => h⟩, rfl⟩ ?_
        intro k hk
        (conv => arg 5; whnf)
        refine wp_br (fun g2 => ?_) (fun g2 => ?_)
        · have hlt : k < kf := by simp at g2; omega
          have hat := f2 k hlt
          (conv => arg 5; whnf)
          refine wp_must ⟨by omega, by omega, hs.some (show k < n by omega)⟩ ?_
          (conv => arg 5; whnf)
          refine readP (.int .i64 (at_ l k)) rfl (.tail _ (.head _)) (show k < n by omega) (hs.some (show k < n by omega)) (ic_get (at_get (i := k) (by omega))) (j := k) (by simp) ?_
          (conv => arg 5; whnf)
          refine wp_br (fun h => absurd h (by rw [hat]; simp)) (fun _ => ?_)
          (conv => arg 5; whnf)
          refine wp_must ⟨by omega, by omega⟩ ?_
          (conv => arg 5; whnf)
          refine wp_end ⟨k + 1, hlt, ⟨by repeat' first | exact trivial | refine ⟨.inl rfl, ?_⟩ | refine ⟨.inr rfl, ?_⟩, ⟨by repeat' first | exact trivial | refine ⟨.inl rfl, ?_⟩ | refine ⟨.inr rfl, ?_⟩, by repeat' first | exact trivial | refine ⟨.inl rfl, ?_⟩ | refine ⟨.inr rfl, ?_⟩, fun _ h => h⟩, rfl⟩, by show kf - (k + 1) < kf - k; omega⟩
        · clear f1 f2 f3 f4 HF HH hhl
          (conv => arg 5; whnf)
          refine loop_rule env_ok [] (by kernel_rfl) (fun j : Nat × List Int × Option Addr × Nat => j.1 ≤ n ∧ j.2.1.length = n ∧ Sl j.2.2.1 n j.2.2.2 ∧ j.1 ≤ firstV j.2.1 who) (fun j => (⟨[], [], [rowF (pt j.2.2.1 n) (ic j.2.1)]⟩, sl 116 [(0, .v (.slice a n c)), (1, .v (.int .i64 who)), (4, .v (.bool false)), (5, .v (.slice a n c)), (6, .v (.int .i64 (kf : Nat))), (8, .v (.slice j.2.2.1 n j.2.2.2)), (9, .v (.int .i64 (j.1 : Nat)))])) (fun j => n - j.1) (0, l, a, c) ⟨Nat.zero_le _, hn.symm, hs, Nat.zero_le _⟩ ⟨by repeat' first | exact trivial | refine ⟨.inl rfl, ?_⟩ | refine ⟨.inr rfl, ?_⟩, ⟨by repeat' first | exact trivial | refine ⟨.inl rfl, ?_⟩ | refine ⟨.inr rfl, ?_⟩, by repeat' first | exact trivial | refine ⟨.inl rfl, ?_⟩ | refine ⟨.inr rfl, ?_⟩, fun φ h => by simp only [List.mem_singleton] at h; subst h; exact (.tail _ (.head _))⟩, rfl⟩ ?_
          rintro ⟨m, ly, ay, cy⟩ ⟨hm, hly, hsy, hmf⟩
          simp only [] at hm hly hsy hmf
          have hfl := first_le ly who
          rw [hly] at hfl
          (conv => arg 5; whnf)
          refine wp_g1 (fun g3 => ?_) (fun g3 => ?_)
          · have hlt : m < n := by have g3 : decide ((m : Int) < n) = true := g3; simp at g3; omega
            (conv => arg 5; whnf)
            refine meetc (f := 41) (v := .int .i64 (firstV ly who : Nat)) rfl (by kernel_rfl) (fun β ρ w' hM' => first ly ay n cy w' who hsy hly.symm (hM'.at_ (.head _))) ?_
            (conv => arg 5; whnf)
            refine wp_br (fun g4 => ?_) (fun g4 => ?_)
            · have hfn : firstV ly who < n := by simp at g4; omega
              have hmore := first_more ly who hw1 (by omega)
              have hok : (takeE ly (firstV ly who : Nat) who = 0 ∧ takeV ly (firstV ly who : Nat) who = withV ly (firstV ly who : Nat) who) ∨ (takeE ly (firstV ly who : Nat) who = 6 ∧ freeB ly (firstV ly who : Nat) = false) := by
                have hhas : hasB ly (firstV ly who : Nat) = true := has_iff.2 (by omega)
                unfold takeV takeE freeB
                rw [hhas, hw1]
                cases (at_ ly (firstV ly who : Nat) == 0) <;> simp
              have HT := fun (w : World) hrow => take ly ay n cy w (firstV ly who : Nat) who hsy hly.symm hrow (by omega)
              have HR := fun (w : World) hrow => free ly ay n cy w (firstV ly who : Nat) hsy hly.symm hrow
              (conv => arg 5; whnf)
              refine meetc (f := 41) (v := .int .i64 (firstV ly who : Nat)) rfl (by kernel_rfl) (fun β ρ w' hM' => first ly ay n cy w' who hsy hly.symm (hM'.at_ (.head _))) ?_
              (conv => arg 5; whnf)
              refine meet1 (f := 30) (n := n) (v := fun a1 c1 => .tuple #[.slice a1 n c1, .int .i64 (takeE ly (firstV ly who : Nat) who)]) (xs := ic (takeV ly (firstV ly who : Nat) who)) rfl (by kernel_rfl) (fun β ρ w' hM' => HT w' (hM'.at_ (.head _))) (fun a3 c_a3 h_a3 => ?_)
              rcases hok with ⟨k1, k2⟩ | ⟨k1, k2⟩
              · rw [k1, k2]
                (conv => arg 5; whnf)
                refine wp_must ⟨by omega, by omega⟩ ?_
                (conv => arg 5; whnf)
                refine wp_end ⟨(m + 1, withV ly (firstV ly who : Nat) who, a3, c_a3), ⟨hlt, by rw [with_length]; exact hly, h_a3, by show m + 1 ≤ firstV (withV ly (firstV ly who : Nat) who) who; omega⟩, ⟨by repeat' first | exact trivial | refine ⟨.inl rfl, ?_⟩ | refine ⟨.inr rfl, ?_⟩, ⟨by repeat' first | exact trivial | refine ⟨.inl rfl, ?_⟩ | refine ⟨.inr rfl, ?_⟩, by repeat' first | exact trivial | refine ⟨.inl rfl, ?_⟩ | refine ⟨.inr rfl, ?_⟩, fun φ h => by simp only [List.mem_singleton] at h; subst h; exact (.head _)⟩, rfl⟩, by show n - (m + 1) < n - m; omega⟩
              · rw [k1]
                rw [k2] at HR
                (conv => arg 5; whnf)
                refine meetc (f := 41) (v := .int .i64 (firstV ly who : Nat)) rfl (by kernel_rfl) (fun β ρ w' hM' => first ly ay n cy w' who hsy hly.symm (hM'.at_ (.tail _ (.head _)))) ?_
                (conv => arg 5; whnf)
                refine meetc (f := 37) (v := .bool false) rfl (by kernel_rfl) (fun β ρ w' hM' => HR w' (hM'.at_ (.tail _ (.head _)))) ?_
                (conv => arg 5; whnf)
                refine meetc (f := 29) (v := .bool true) rfl (by kernel_rfl) (fun β ρ w' hM' => live w') ?_
                (conv => arg 5; whnf)
                exact wp_back fun β ρ w' hM' => ⟨rfl, hM'.below⟩
            · have hfn : firstV ly who = n := by simp at g4; omega
              (conv => arg 5; whnf)
              refine meetc (f := 41) (v := .int .i64 (firstV ly who : Nat)) rfl (by kernel_rfl) (fun β ρ w' hM' => first ly ay n cy w' who hsy hly.symm (hM'.at_ (.head _))) ?_
              (conv => arg 5; whnf)
              refine wp_g1 (fun _ => ?_) (fun h => absurd h (by simp; omega))
              (conv => arg 5; whnf)
              refine meetc (f := 29) (v := .bool true) rfl (by kernel_rfl) (fun β ρ w' hM' => live w') ?_
              (conv => arg 5; whnf)
              exact wp_back fun β ρ w' hM' => ⟨rfl, hM'.below⟩
          · have hfn : firstV ly who = n := by have g3 : decide ((m : Int) < n) = false := g3; simp at g3; omega
            (conv => arg 5; whnf)
            refine meetc (f := 41) (v := .int .i64 (firstV ly who : Nat)) rfl (by kernel_rfl) (fun β ρ w' hM' => first ly ay n cy w' who hsy hly.symm (hM'.at_ (.head _))) ?_
            (conv => arg 5; whnf)
            refine wp_g1 (fun _ => ?_) (fun h => absurd h (by simp; omega))
            (conv => arg 5; whnf)
            refine meetc (f := 29) (v := .bool true) rfl (by kernel_rfl) (fun β ρ w' hM' => live w') ?_
            (conv => arg 5; whnf)
            exact wp_back fun β ρ w' hM' => ⟨rfl, hM'.below⟩
      · have hkn : kf = n := by simp at g1; omega
        (conv => arg 5; whnf)
        refine meet1 (f := 39) (n := hv.length) (v := fun a1 c1 => .slice a1 hv.length c1) (xs := ic hv) rfl (by kernel_rfl) (fun β ρ w' hM' => HH w' (hM'.at_ (.head _))) (fun a2 c_a2 h_a2 => ?_)
        (conv => arg 5; whnf)
        refine wp_prim (.bool false) (fun w => hne w) ?_
        (conv => arg 5; whnf)
        refine loop_rule env_ok [] (by kernel_rfl) (fun k : Nat => k ≤ kf) (fun k => (⟨[], [], [rowF (pt a2 hv.length) (ic hv), rowF (pt a n) (ic l)]⟩, sl 116 [(0, .v (.slice a n c)), (1, .v (.int .i64 who)), (4, .v (.bool false)), (5, .v (.slice a n c)), (6, .v (.int .i64 (kf : Nat))), (7, .v (.int .i64 (k : Nat)))])) (fun k => kf - k) 0 (Nat.zero_le _) ⟨by repeat' first | exact trivial | refine ⟨.inl rfl, ?_⟩ | refine ⟨.inr rfl, ?_⟩, ⟨by repeat' first | exact trivial | refine ⟨.inl rfl, ?_⟩ | refine ⟨.inr rfl, ?_⟩, by repeat' first | exact trivial | refine ⟨.inl rfl, ?_⟩ | refine ⟨.inr rfl, ?_⟩, fun _ h => h⟩, rfl⟩ ?_
        intro k hk
        (conv => arg 5; whnf)
        refine wp_br (fun g2 => ?_) (fun g2 => ?_)
        · have hlt : k < kf := by simp at g2; omega
          have hat := f2 k hlt
          (conv => arg 5; whnf)
          refine wp_must ⟨by omega, by omega, hs.some (show k < n by omega)⟩ ?_
          (conv => arg 5; whnf)
          refine readP (.int .i64 (at_ l k)) rfl (.tail _ (.head _)) (show k < n by omega) (hs.some (show k < n by omega)) (ic_get (at_get (i := k) (by omega))) (j := k) (by simp) ?_
          (conv => arg 5; whnf)
          refine wp_br (fun h => absurd h (by rw [hat]; simp)) (fun _ => ?_)
          (conv => arg 5; whnf)
          refine wp_must ⟨by omega, by omega⟩ ?_
          (conv => arg 5; whnf)
          refine wp_end ⟨k + 1, hlt, ⟨by repeat' first | exact trivial | refine ⟨.inl rfl, ?_⟩ | refine ⟨.inr rfl, ?_⟩, ⟨by repeat' first | exact trivial | refine ⟨.inl rfl, ?_⟩ | refine ⟨.inr rfl, ?_⟩, by repeat' first | exact trivial | refine ⟨.inl rfl, ?_⟩ | refine ⟨.inr rfl, ?_⟩, fun _ h => h⟩, rfl⟩, by show kf - (k + 1) < kf - k; omega⟩
        · clear f1 f2 f3 f4 HF HH hhl
          (conv => arg 5; whnf)
          refine loop_rule env_ok [] (by kernel_rfl) (fun j : Nat × List Int × Option Addr × Nat => j.1 ≤ n ∧ j.2.1.length = n ∧ Sl j.2.2.1 n j.2.2.2 ∧ j.1 ≤ firstV j.2.1 who) (fun j => (⟨[], [], [rowF (pt j.2.2.1 n) (ic j.2.1)]⟩, sl 116 [(0, .v (.slice a n c)), (1, .v (.int .i64 who)), (4, .v (.bool false)), (5, .v (.slice a n c)), (6, .v (.int .i64 (kf : Nat))), (8, .v (.slice j.2.2.1 n j.2.2.2)), (9, .v (.int .i64 (j.1 : Nat)))])) (fun j => n - j.1) (0, l, a, c) ⟨Nat.zero_le _, hn.symm, hs, Nat.zero_le _⟩ ⟨by repeat' first | exact trivial | refine ⟨.inl rfl, ?_⟩ | refine ⟨.inr rfl, ?_⟩, ⟨by repeat' first | exact trivial | refine ⟨.inl rfl, ?_⟩ | refine ⟨.inr rfl, ?_⟩, by repeat' first | exact trivial | refine ⟨.inl rfl, ?_⟩ | refine ⟨.inr rfl, ?_⟩, fun φ h => by simp only [List.mem_singleton] at h; subst h; exact (.tail _ (.head _))⟩, rfl⟩ ?_
          rintro ⟨m, ly, ay, cy⟩ ⟨hm, hly, hsy, hmf⟩
          simp only [] at hm hly hsy hmf
          have hfl := first_le ly who
          rw [hly] at hfl
          (conv => arg 5; whnf)
          refine wp_g1 (fun g3 => ?_) (fun g3 => ?_)
          · have hlt : m < n := by have g3 : decide ((m : Int) < n) = true := g3; simp at g3; omega
            (conv => arg 5; whnf)
            refine meetc (f := 41) (v := .int .i64 (firstV ly who : Nat)) rfl (by kernel_rfl) (fun β ρ w' hM' => first ly ay n cy w' who hsy hly.symm (hM'.at_ (.head _))) ?_
            (conv => arg 5; whnf)
            refine wp_br (fun g4 => ?_) (fun g4 => ?_)
            · have hfn : firstV ly who < n := by simp at g4; omega
              have hmore := first_more ly who hw1 (by omega)
              have hok : (takeE ly (firstV ly who : Nat) who = 0 ∧ takeV ly (firstV ly who : Nat) who = withV ly (firstV ly who : Nat) who) ∨ (takeE ly (firstV ly who : Nat) who = 6 ∧ freeB ly (firstV ly who : Nat) = false) := by
                have hhas : hasB ly (firstV ly who : Nat) = true := has_iff.2 (by omega)
                unfold takeV takeE freeB
                rw [hhas, hw1]
                cases (at_ ly (firstV ly who : Nat) == 0) <;> simp
              have HT := fun (w : World) hrow => take ly ay n cy w (firstV ly who : Nat) who hsy hly.symm hrow (by omega)
              have HR := fun (w : World) hrow => free ly ay n cy w (firstV ly who : Nat) hsy hly.symm hrow
              (conv => arg 5; whnf)
              refine meetc (f := 41) (v := .int .i64 (firstV ly who : Nat)) rfl (by kernel_rfl) (fun β ρ w' hM' => first ly ay n cy w' who hsy hly.symm (hM'.at_ (.head _))) ?_
              (conv => arg 5; whnf)
              refine meet1 (f := 30) (n := n) (v := fun a1 c1 => .tuple #[.slice a1 n c1, .int .i64 (takeE ly (firstV ly who : Nat) who)]) (xs := ic (takeV ly (firstV ly who : Nat) who)) rfl (by kernel_rfl) (fun β ρ w' hM' => HT w' (hM'.at_ (.head _))) (fun a3 c_a3 h_a3 => ?_)
              rcases hok with ⟨k1, k2⟩ | ⟨k1, k2⟩
              · rw [k1, k2]
                (conv => arg 5; whnf)
                refine wp_must ⟨by omega, by omega⟩ ?_
                (conv => arg 5; whnf)
                refine wp_end ⟨(m + 1, withV ly (firstV ly who : Nat) who, a3, c_a3), ⟨hlt, by rw [with_length]; exact hly, h_a3, by show m + 1 ≤ firstV (withV ly (firstV ly who : Nat) who) who; omega⟩, ⟨by repeat' first | exact trivial | refine ⟨.inl rfl, ?_⟩ | refine ⟨.inr rfl, ?_⟩, ⟨by repeat' first | exact trivial | refine ⟨.inl rfl, ?_⟩ | refine ⟨.inr rfl, ?_⟩, by repeat' first | exact trivial | refine ⟨.inl rfl, ?_⟩ | refine ⟨.inr rfl, ?_⟩, fun φ h => by simp only [List.mem_singleton] at h; subst h; exact (.head _)⟩, rfl⟩, by show n - (m + 1) < n - m; omega⟩
              · rw [k1]
                rw [k2] at HR
                (conv => arg 5; whnf)
                refine meetc (f := 41) (v := .int .i64 (firstV ly who : Nat)) rfl (by kernel_rfl) (fun β ρ w' hM' => first ly ay n cy w' who hsy hly.symm (hM'.at_ (.tail _ (.head _)))) ?_
                (conv => arg 5; whnf)
                refine meetc (f := 37) (v := .bool false) rfl (by kernel_rfl) (fun β ρ w' hM' => HR w' (hM'.at_ (.tail _ (.head _)))) ?_
                (conv => arg 5; whnf)
                refine meetc (f := 29) (v := .bool true) rfl (by kernel_rfl) (fun β ρ w' hM' => live w') ?_
                (conv => arg 5; whnf)
                exact wp_back fun β ρ w' hM' => ⟨rfl, hM'.below⟩
            · have hfn : firstV ly who = n := by simp at g4; omega
              (conv => arg 5; whnf)
              refine meetc (f := 41) (v := .int .i64 (firstV ly who : Nat)) rfl (by kernel_rfl) (fun β ρ w' hM' => first ly ay n cy w' who hsy hly.symm (hM'.at_ (.head _))) ?_
              (conv => arg 5; whnf)
              refine wp_g1 (fun _ => ?_) (fun h => absurd h (by simp; omega))
              (conv => arg 5; whnf)
              refine meetc (f := 29) (v := .bool true) rfl (by kernel_rfl) (fun β ρ w' hM' => live w') ?_
              (conv => arg 5; whnf)
              exact wp_back fun β ρ w' hM' => ⟨rfl, hM'.below⟩
          · have hfn : firstV ly who = n := by have g3 : decide ((m : Int) < n) = false := g3; simp at g3; omega
            (conv => arg 5; whnf)
            refine meetc (f := 41) (v := .int .i64 (firstV ly who : Nat)) rfl (by kernel_rfl) (fun β ρ w' hM' => first ly ay n cy w' who hsy hly.symm (hM'.at_ (.head _))) ?_
            (conv => arg 5; whnf)
            refine wp_g1 (fun _ => ?_) (fun h => absurd h (by simp; omega))
            (conv => arg 5; whnf)
            refine meetc (f := 29) (v := .bool true) rfl (by kernel_rfl) (fun β ρ w' hM' => live w') ?_
            (conv => arg 5; whnf)
            exact wp_back fun β ρ w' hM' => ⟨rfl, hM'.below⟩
  · (conv => arg 5; whnf)
    refine meetc (f := 29) (v := .bool true) rfl (by kernel_rfl) (fun β ρ w' hM' => live w') ?_
    (conv => arg 5; whnf)
    exact wp_back fun β ρ w' hM' => ⟨rfl, hM'.below⟩
end Go.Proofs.Ytjeghmlingfnjaa.lockFirst
