/- The walk of hopperlaw10.TurnNext. -/
import Derived.Test.YtjeghmlingfnjaaTurnMayWalk
namespace Go.Proofs.Ytjeghmlingfnjaa.turnNext
open Go.RowKit Sx turn turnMay
set_option linter.unusedVariables false
set_option linter.unusedSimpArgs false
theorem none_on {bs : List Bool} (h : ups bs = []) (k : Nat) (hk : k < bs.length) : on bs k = false := by
  cases ho : on bs k with
  | false => rfl
  | true => exact absurd (mem_ups.2 ⟨hk, ho⟩) (by rw [h]; exact List.not_mem_nil)
set_option maxHeartbeats 4000000 in
set_option maxRecDepth 100000 in
theorem walk (a : Option Addr) (n c : Nat) (bs : List Bool) (last : Int) (w : World) (hl : Sl a n c ∧ n = bs.length ∧ At w (pt a n) (bs.map Value.bool)) (hi : Fits last) : Calls Try.prog 14 (List.toArray [.slice a n c, .int .i64 last]) w fun e w' =>  e = .returned (.bool true) ∧ Below w.heap.size w w' := by
  obtain ⟨hs, hn, hrow⟩ := hl
  have hn63 := hs.le
  refine calls_of_exec env_ok Try.func14 rfl [] (by kernel_rfl) [rowF (pt a n) (bc bs)] (at1 hrow) ?_
  (conv => arg 5; whnf)
  refine wp_br (fun h => ?_) (fun h => ?_)
  · (conv => arg 5; whnf)
    refine meetc (f := 43) (v := .bool true) rfl (by kernel_rfl) (fun β ρ w' hM' => live w') ?_
    (conv => arg 5; whnf)
    exact wp_back fun β ρ w' hM' => ⟨rfl, hM'.below⟩
  · have hl : bs.length ≤ 200 := by simp at h; omega
    clear h
    by_cases hu : ups bs = []
    · have hno := none_on hu
      have n1 : nxt bs last = -1 := nxt_none hu
      (conv => arg 5; whnf)
      refine meetc (f := 48) (v := .int .i64 (-1)) rfl (by kernel_rfl) (fun β ρ w' hM' => nextE bs a n c last _ w' hs hn (by omega) n1 (hM'.at_ (.head _))) ?_
      (conv => arg 5; whnf)
      refine loop_rule env_ok [] (by kernel_rfl) (fun k : Nat => k ≤ n) (fun k => (⟨[], [], [rowF (pt a n) (bc bs)]⟩, sl 84 [(0, .v (.slice a n c)), (1, .v (.int .i64 last)), (4, .v (.bool false)), (5, .v (.int .i64 (-1))), (6, .v (.int .i64 (k : Nat)))])) (fun k => n - k) 0 (Nat.zero_le _) ⟨by repeat' first | exact trivial | refine ⟨.inl rfl, ?_⟩ | refine ⟨.inr rfl, ?_⟩, ⟨by repeat' first | exact trivial | refine ⟨.inl rfl, ?_⟩ | refine ⟨.inr rfl, ?_⟩, by repeat' first | exact trivial | refine ⟨.inl rfl, ?_⟩ | refine ⟨.inr rfl, ?_⟩, fun _ h => h⟩, rfl⟩ ?_
      intro k hk
      (conv => arg 5; whnf)
      refine wp_br (fun g1 => ?_) (fun g1 => ?_)
      · have hlt : k < n := by simp at g1; omega
        have r1 := bc_at (show k < bs.length by omega)
        rw [hno k (by omega)] at r1
        (conv => arg 5; whnf)
        refine wp_must ⟨by omega, by omega, hs.some hlt⟩ ?_
        (conv => arg 5; whnf)
        refine readP (.bool false) rfl (.head _) (show k < n by omega) (hs.some (show k < n by omega)) r1 (j := k) (by simp) ?_
        (conv => arg 5; whnf)
        refine wp_must ⟨by omega, by omega⟩ ?_
        (conv => arg 5; whnf)
        refine wp_end ⟨k + 1, hlt, ⟨by repeat' first | exact trivial | refine ⟨.inl rfl, ?_⟩ | refine ⟨.inr rfl, ?_⟩, ⟨by repeat' first | exact trivial | refine ⟨.inl rfl, ?_⟩ | refine ⟨.inr rfl, ?_⟩, by repeat' first | exact trivial | refine ⟨.inl rfl, ?_⟩ | refine ⟨.inr rfl, ?_⟩, fun _ h => h⟩, rfl⟩, by show n - (k + 1) < n - k; omega⟩
      · (conv => arg 5; whnf)
        refine meetc (f := 43) (v := .bool true) rfl (by kernel_rfl) (fun β ρ w' hM' => live w') ?_
        (conv => arg 5; whnf)
        exact wp_back fun β ρ w' hM' => ⟨rfl, hM'.below⟩
    · obtain ⟨s, h1, h2, h3, h4⟩ := nxt_first (frm_le bs last) hu
      have hfl := frm_le bs last
      have ny : nxt bs last = (((frm bs last + s) % bs.length : Nat) : Int) := by unfold nxt; rw [h2]; rfl
      have hfr : (0 ≤ last ∧ last < n ∧ last + 1 = (frm bs last : Nat)) ∨ (¬ (0 ≤ last ∧ last < n) ∧ frm bs last = 0) := by
        unfold frm
        by_cases hc : 0 ≤ last ∧ last < bs.length
        · rw [if_pos hc]; left; omega
        · rw [if_neg hc]; right; exact ⟨by omega, rfl⟩
      generalize frm bs last = f at *
      have hz : f % n = (f + 0) % n := rfl
      obtain ⟨y, hy⟩ : ∃ y, (f + s) % bs.length = y := ⟨_, rfl⟩
      have hyl : y < bs.length := by rw [← hy]; exact Nat.mod_lt _ (by omega)
      rw [hy] at ny h3
      have r2 := bc_at hyl
      rw [h3] at r2
      have hpos : 0 < n := by omega
      rcases hfr with ⟨e1, e2, e3⟩ | ⟨e1, e2⟩
      · (conv => arg 5; whnf)
        refine meetc (f := 48) (v := .int .i64 (y : Nat)) rfl (by kernel_rfl) (fun β ρ w' hM' => nextE bs a n c last _ w' hs hn (by omega) ny (hM'.at_ (.head _))) ?_
        (conv => arg 5; whnf)
        refine wp_g1 (fun _ => ?_) (fun h => by simp at h; omega)
        (conv => arg 5; whnf)
        refine wp_br (fun _ => ?_) (fun h => by simp at h; omega)
        (conv => arg 5; whnf)
        refine wp_must ⟨by omega, by omega⟩ ?_
        (conv => arg 5; whnf)
        refine wp_prim (.int .i64 ((f + 0) % n : Nat)) (fun w => (rem_run _ _ (last + 1) n (by omega) hpos w).trans (by rw [e3]; rfl)) ?_
        (conv => arg 5; whnf)
        refine loop_rule env_ok [] (by kernel_rfl) (fun k : Nat => k ≤ s) (fun k => (⟨[], [], [rowF (pt a n) (bc bs)]⟩, sl 84 [(0, .v (.slice a n c)), (1, .v (.int .i64 last)), (4, .v (.bool false)), (5, .v (.int .i64 (y : Nat))), (7, .v (.int .i64 ((f + k) % n : Nat))), (8, .v (.int .i64 (k : Nat)))])) (fun k => n - k) 0 (Nat.zero_le _) ⟨by repeat' first | exact trivial | refine ⟨.inl rfl, ?_⟩ | refine ⟨.inr rfl, ?_⟩, ⟨by repeat' first | exact trivial | refine ⟨.inl rfl, ?_⟩ | refine ⟨.inr rfl, ?_⟩, by repeat' first | exact trivial | refine ⟨.inl rfl, ?_⟩ | refine ⟨.inr rfl, ?_⟩, fun _ h => h⟩, rfl⟩ ?_
        intro k hk
        (conv => arg 5; whnf)
        refine wp_g1 (fun _ => ?_) (fun h => by simp at h; omega)
        (conv => arg 5; whnf)
        refine wp_br (fun g1 => ?_) (fun g1 => ?_)
        · have hks : k < s := by
            have hne : ¬ k = s := fun e => by rw [e, hn, hy] at g1; simp at g1
            omega
          have hat := Nat.mod_lt (f + k) hpos
          have r1 := bc_at (show (f + k) % n < bs.length by omega)
          rw [hn, h4 k hks, ← hn] at r1
          have hnx : (((f + k) % n + 1) % n) = (f + (k + 1)) % n := by rw [Nat.mod_add_mod]; rfl
          clear g1
          generalize hm : (f + k) % n = m at *
          (conv => arg 5; whnf)
          refine wp_must ⟨by omega, by omega, hs.some (show m < n by omega)⟩ ?_
          (conv => arg 5; whnf)
          refine readP (.bool false) rfl (.head _) (show m < n by omega) (hs.some (show m < n by omega)) r1 (j := m) (by simp) ?_
          (conv => arg 5; whnf)
          refine wp_must ⟨by omega, by omega⟩ ?_
          (conv => arg 5; whnf)
          refine wp_prim (.int .i64 ((f + (k + 1)) % n : Nat)) (fun w => (rem_run _ _ ((m : Int) + 1) n (by omega) hpos w).trans (by rw [← hnx]; rfl)) ?_
          (conv => arg 5; whnf)
          refine wp_must ⟨by omega, by omega⟩ ?_
          (conv => arg 5; whnf)
          refine wp_end ⟨k + 1, by omega, ⟨by repeat' first | exact trivial | refine ⟨.inl rfl, ?_⟩ | refine ⟨.inr rfl, ?_⟩, ⟨by repeat' first | exact trivial | refine ⟨.inl rfl, ?_⟩ | refine ⟨.inr rfl, ?_⟩, by repeat' first | exact trivial | refine ⟨.inl rfl, ?_⟩ | refine ⟨.inr rfl, ?_⟩, fun _ h => h⟩, rfl⟩, by show n - (k + 1) < n - k; omega⟩
        · generalize (f + k) % n = q at *
          have hat : q = y := by simp at g1; omega
          rw [hat]
          (conv => arg 5; whnf)
          refine wp_g1 (fun _ => ?_) (fun h => by simp at h; omega)
          (conv => arg 5; whnf)
          refine wp_g1 (fun _ => ?_) (fun h => by simp at h)
          (conv => arg 5; whnf)
          refine wp_must ⟨by omega, by omega, hs.some (show y < n by omega)⟩ ?_
          (conv => arg 5; whnf)
          refine readP (.bool true) rfl (.head _) (show y < n by omega) (hs.some (show y < n by omega)) r2 (j := y) (by simp) ?_
          (conv => arg 5; whnf)
          refine meetc (f := 43) (v := .bool true) rfl (by kernel_rfl) (fun β ρ w' hM' => live w') ?_
          (conv => arg 5; whnf)
          exact wp_back fun β ρ w' hM' => ⟨rfl, hM'.below⟩
      · subst e2
        have hz0 : (0 : Int) = (((0 + 0) % n : Nat) : Int) := by simp
        (conv => arg 5; whnf)
        refine meetc (f := 48) (v := .int .i64 (y : Nat)) rfl (by kernel_rfl) (fun β ρ w' hM' => nextE bs a n c last _ w' hs hn (by omega) ny (hM'.at_ (.head _))) ?_
        by_cases hl0 : 0 ≤ last
        · (conv => arg 5; whnf)
          refine wp_g1 (fun _ => ?_) (fun h => by simp at h; omega)
          (conv => arg 5; whnf)
          refine wp_br (fun h => by simp at h; omega) (fun _ => ?_)
          (conv => arg 5; whnf)
          rw [hz0]
          (conv => arg 5; whnf)
          refine loop_rule env_ok [] (by kernel_rfl) (fun k : Nat => k ≤ s) (fun k => (⟨[], [], [rowF (pt a n) (bc bs)]⟩, sl 84 [(0, .v (.slice a n c)), (1, .v (.int .i64 last)), (4, .v (.bool false)), (5, .v (.int .i64 (y : Nat))), (7, .v (.int .i64 ((0 + k) % n : Nat))), (8, .v (.int .i64 (k : Nat)))])) (fun k => n - k) 0 (Nat.zero_le _) ⟨by repeat' first | exact trivial | refine ⟨.inl rfl, ?_⟩ | refine ⟨.inr rfl, ?_⟩, ⟨by repeat' first | exact trivial | refine ⟨.inl rfl, ?_⟩ | refine ⟨.inr rfl, ?_⟩, by repeat' first | exact trivial | refine ⟨.inl rfl, ?_⟩ | refine ⟨.inr rfl, ?_⟩, fun _ h => h⟩, rfl⟩ ?_
          intro k hk
          (conv => arg 5; whnf)
          refine wp_g1 (fun _ => ?_) (fun h => by simp at h; omega)
          (conv => arg 5; whnf)
          refine wp_br (fun g1 => ?_) (fun g1 => ?_)
          · have hks : k < s := by
              have hne : ¬ k = s := fun e => by rw [e, hn, hy] at g1; simp at g1
              omega
            have hat := Nat.mod_lt (0 + k) hpos
            have r1 := bc_at (show (0 + k) % n < bs.length by omega)
            rw [hn, h4 k hks, ← hn] at r1
            have hnx : (((0 + k) % n + 1) % n) = (0 + (k + 1)) % n := by rw [Nat.mod_add_mod]; rfl
            clear g1
            generalize hm : (0 + k) % n = m at *
            (conv => arg 5; whnf)
            refine wp_must ⟨by omega, by omega, hs.some (show m < n by omega)⟩ ?_
            (conv => arg 5; whnf)
            refine readP (.bool false) rfl (.head _) (show m < n by omega) (hs.some (show m < n by omega)) r1 (j := m) (by simp) ?_
            (conv => arg 5; whnf)
            refine wp_must ⟨by omega, by omega⟩ ?_
            (conv => arg 5; whnf)
            refine wp_prim (.int .i64 ((0 + (k + 1)) % n : Nat)) (fun w => (rem_run _ _ ((m : Int) + 1) n (by omega) hpos w).trans (by rw [← hnx]; rfl)) ?_
            (conv => arg 5; whnf)
            refine wp_must ⟨by omega, by omega⟩ ?_
            (conv => arg 5; whnf)
            refine wp_end ⟨k + 1, by omega, ⟨by repeat' first | exact trivial | refine ⟨.inl rfl, ?_⟩ | refine ⟨.inr rfl, ?_⟩, ⟨by repeat' first | exact trivial | refine ⟨.inl rfl, ?_⟩ | refine ⟨.inr rfl, ?_⟩, by repeat' first | exact trivial | refine ⟨.inl rfl, ?_⟩ | refine ⟨.inr rfl, ?_⟩, fun _ h => h⟩, rfl⟩, by show n - (k + 1) < n - k; omega⟩
          · generalize (0 + k) % n = q at *
            have hat : q = y := by simp at g1; omega
            rw [hat]
            (conv => arg 5; whnf)
            refine wp_g1 (fun _ => ?_) (fun h => by simp at h; omega)
            (conv => arg 5; whnf)
            refine wp_g1 (fun _ => ?_) (fun h => by simp at h)
            (conv => arg 5; whnf)
            refine wp_must ⟨by omega, by omega, hs.some (show y < n by omega)⟩ ?_
            (conv => arg 5; whnf)
            refine readP (.bool true) rfl (.head _) (show y < n by omega) (hs.some (show y < n by omega)) r2 (j := y) (by simp) ?_
            (conv => arg 5; whnf)
            refine meetc (f := 43) (v := .bool true) rfl (by kernel_rfl) (fun β ρ w' hM' => live w') ?_
            (conv => arg 5; whnf)
            exact wp_back fun β ρ w' hM' => ⟨rfl, hM'.below⟩
        · (conv => arg 5; whnf)
          refine wp_g1 (fun h => by simp at h; omega) (fun _ => ?_)
          (conv => arg 5; whnf)
          rw [hz0]
          (conv => arg 5; whnf)
          refine loop_rule env_ok [] (by kernel_rfl) (fun k : Nat => k ≤ s) (fun k => (⟨[], [], [rowF (pt a n) (bc bs)]⟩, sl 84 [(0, .v (.slice a n c)), (1, .v (.int .i64 last)), (4, .v (.bool false)), (5, .v (.int .i64 (y : Nat))), (7, .v (.int .i64 ((0 + k) % n : Nat))), (8, .v (.int .i64 (k : Nat)))])) (fun k => n - k) 0 (Nat.zero_le _) ⟨by repeat' first | exact trivial | refine ⟨.inl rfl, ?_⟩ | refine ⟨.inr rfl, ?_⟩, ⟨by repeat' first | exact trivial | refine ⟨.inl rfl, ?_⟩ | refine ⟨.inr rfl, ?_⟩, by repeat' first | exact trivial | refine ⟨.inl rfl, ?_⟩ | refine ⟨.inr rfl, ?_⟩, fun _ h => h⟩, rfl⟩ ?_
          intro k hk
          (conv => arg 5; whnf)
          refine wp_g1 (fun _ => ?_) (fun h => by simp at h; omega)
          (conv => arg 5; whnf)
          refine wp_br (fun g1 => ?_) (fun g1 => ?_)
          · have hks : k < s := by
              have hne : ¬ k = s := fun e => by rw [e, hn, hy] at g1; simp at g1
              omega
            have hat := Nat.mod_lt (0 + k) hpos
            have r1 := bc_at (show (0 + k) % n < bs.length by omega)
            rw [hn, h4 k hks, ← hn] at r1
            have hnx : (((0 + k) % n + 1) % n) = (0 + (k + 1)) % n := by rw [Nat.mod_add_mod]; rfl
            clear g1
            generalize hm : (0 + k) % n = m at *
            (conv => arg 5; whnf)
            refine wp_must ⟨by omega, by omega, hs.some (show m < n by omega)⟩ ?_
            (conv => arg 5; whnf)
            refine readP (.bool false) rfl (.head _) (show m < n by omega) (hs.some (show m < n by omega)) r1 (j := m) (by simp) ?_
            (conv => arg 5; whnf)
            refine wp_must ⟨by omega, by omega⟩ ?_
            (conv => arg 5; whnf)
            refine wp_prim (.int .i64 ((0 + (k + 1)) % n : Nat)) (fun w => (rem_run _ _ ((m : Int) + 1) n (by omega) hpos w).trans (by rw [← hnx]; rfl)) ?_
            (conv => arg 5; whnf)
            refine wp_must ⟨by omega, by omega⟩ ?_
            (conv => arg 5; whnf)
            refine wp_end ⟨k + 1, by omega, ⟨by repeat' first | exact trivial | refine ⟨.inl rfl, ?_⟩ | refine ⟨.inr rfl, ?_⟩, ⟨by repeat' first | exact trivial | refine ⟨.inl rfl, ?_⟩ | refine ⟨.inr rfl, ?_⟩, by repeat' first | exact trivial | refine ⟨.inl rfl, ?_⟩ | refine ⟨.inr rfl, ?_⟩, fun _ h => h⟩, rfl⟩, by show n - (k + 1) < n - k; omega⟩
          · generalize (0 + k) % n = q at *
            have hat : q = y := by simp at g1; omega
            rw [hat]
            (conv => arg 5; whnf)
            refine wp_g1 (fun _ => ?_) (fun h => by simp at h; omega)
            (conv => arg 5; whnf)
            refine wp_g1 (fun _ => ?_) (fun h => by simp at h)
            (conv => arg 5; whnf)
            refine wp_must ⟨by omega, by omega, hs.some (show y < n by omega)⟩ ?_
            (conv => arg 5; whnf)
            refine readP (.bool true) rfl (.head _) (show y < n by omega) (hs.some (show y < n by omega)) r2 (j := y) (by simp) ?_
            (conv => arg 5; whnf)
            refine meetc (f := 43) (v := .bool true) rfl (by kernel_rfl) (fun β ρ w' hM' => live w') ?_
            (conv => arg 5; whnf)
            exact wp_back fun β ρ w' hM' => ⟨rfl, hM'.below⟩
end Go.Proofs.Ytjeghmlingfnjaa.turnNext
