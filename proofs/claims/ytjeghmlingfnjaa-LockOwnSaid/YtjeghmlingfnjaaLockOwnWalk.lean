/- The walk of hopperlaw09.LockOwn. -/
import Derived.Test.YtjeghmlingfnjaaLockLive
namespace Go.Proofs.Ytjeghmlingfnjaa.lockOwn
open Go.RowKit Sx lock
set_option linter.unusedVariables false
set_option linter.unusedSimpArgs false
/-- Whoever takes a free lock holds it, and one more than he held. -/
theorem held_more (l : List Int) (i who : Int) (h2 : 0 ≤ i ∧ i < l.length) (h0 : at_ l i = 0) (hw : decide (who ≥ 1) = true) : (heldV (withV l i who) who).length = (heldV l who).length + 1 ∧ (i ∈ heldV (withV l i who) who) := by
  have hw1 : who ≥ 1 := by simpa using hw
  have hl : (withV l i who).length = l.length := with_length _ _ _
  have p1 : holdP (withV l i who) who i.toNat = true := by
    unfold holdP
    rw [show ((i.toNat : Nat) : Int) = i from by omega]
    unfold holdsB
    rw [hw]
    simp [at_, withV, show i.toNat < l.length from by omega]
  have p0 : holdP l who i.toNat = false := by
    unfold holdP holdsB
    rw [hw, show ((i.toNat : Nat) : Int) = i from by omega, h0]
    simp
    omega
  have pe : ∀ j, j ≠ i.toNat → holdP (withV l i who) who j = holdP l who j := fun j hj => by
    unfold holdP holdsB at_ withV
    rw [List.getElem?_set, if_neg (by omega)]
  have cnt : ∀ k, (ups (holdP (withV l i who) who) k).length = (ups (holdP l who) k).length + (if i.toNat < k then 1 else 0) := by
    intro k
    induction k with
    | zero => rfl
    | succ k ih =>
      rw [ups_succ, ups_succ]
      by_cases hk : k = i.toNat
      · subst hk
        rw [p1, p0]
        simp only [cond_true, cond_false, List.length_append, List.length_singleton, ih, if_neg (Nat.lt_irrefl _), if_pos (Nat.lt_succ_self _)]
      · rw [pe k hk]
        have e : (if i.toNat < k + 1 then 1 else 0) = if i.toNat < k then 1 else 0 := by
          by_cases h : i.toNat < k
          · rw [if_pos h, if_pos (by omega)]
          · rw [if_neg h, if_neg (by omega)]
        rw [e]
        cases holdP l who k <;> simp [ih] <;> omega
  refine ⟨?_, ?_⟩
  · unfold heldV
    rw [hl, cnt l.length, if_pos (by omega)]
  · unfold heldV ups
    refine List.mem_map.2 ⟨i.toNat, List.mem_filter.2 ⟨List.mem_range.2 (by rw [hl]; omega), p1⟩, by simp; omega⟩
theorem held_le (l : List Int) (who : Int) : (heldV l who).length ≤ l.length := ups_le _ _
theorem back (l : List Int) (i who : Int) (h2 : 0 ≤ i ∧ i < l.length) (h0 : at_ l i = 0) (hw : decide (who ≥ 1) = true) : giveE (withV l i who) i who = 0 ∧ giveV (withV l i who) i who = l ∧ freeB (withV l i who) i = false := by
  have hw1 : who ≥ 1 := by simpa using hw
  have e1 : at_ (withV l i who) i = who := by simp [at_, withV, show i.toNat < l.length from by omega]
  have e2 : hasB (withV l i who) i = true := has_iff.2 (by rw [with_length]; omega)
  have e3 : giveE (withV l i who) i who = 0 := by unfold giveE; rw [e2, hw, e1]; simp
  refine ⟨e3, ?_, ?_⟩
  · unfold giveV
    rw [e3]
    unfold withV
    have := at_get h2
    rw [h0] at this
    obtain ⟨h3, h4⟩ := List.getElem?_eq_some_iff.1 this
    simp only [List.set_set]
    show l.set i.toNat 0 = l
    rw [← h4]
    exact List.set_getElem_self h3
  · unfold freeB
    rw [e1]
    simp
    omega
set_option maxHeartbeats 4000000 in
set_option maxRecDepth 100000 in
theorem walk (a : Option Addr) (n c : Nat) (l : List Int) (i who : Int) (w : World) (hl : Sl a n c ∧ n = l.length ∧ At w (pt a n) (ic l) ∧ ∀ z ∈ l, Fits z) (hi : Fits i) (hw : Fits who) : Calls Try.prog 9 (List.toArray [.slice a n c, .int .i64 i, .int .i64 who]) w fun e w' =>  e = .returned (.bool true) ∧ Below w.heap.size w w' := by
  obtain ⟨hs, hn, hrow, hf⟩ := hl
  refine calls_of_exec env_ok Try.func9 rfl [] (by kernel_rfl) [rowF (pt a n) (ic l)] (at1 hrow) ?_
  (conv => arg 5; whnf)
  refine wp_br (fun h => ?_) (fun h => ?_)
  · (conv => arg 5; whnf)
    refine meetc (f := 29) (v := .bool true) rfl (by kernel_rfl) (fun β ρ w' hM' => live w') ?_
    (conv => arg 5; whnf)
    exact wp_back fun β ρ w' hM' => ⟨rfl, hM'.below⟩
  · have hl : l.length ≤ 1000000 := by simp at h; omega
    have hl60 : l.length ≤ 60 := by simp at h; omega
    have HT := fun (w : World) hrow => take l a n c w i who hs hn hrow hl
    have l1 : n = (takeV l i who).length := by rw [take_length, hn]
    have hok : (takeE l i who = 0 ∧ freeB l i = true ∧ decide (who ≥ 1) = true ∧ takeV l i who = withV l i who) ∨ (takeE l i who ≠ 0 ∧ (freeB l i && decide (who ≥ 1)) = false ∧ takeV l i who = l) := by
      unfold takeV takeE freeB
      cases hasB l i <;> cases decide (who ≥ 1) <;> cases (at_ l i == 0) <;> simp
    (conv => arg 5; whnf)
    refine meet1 (f := 30) (n := n) (v := fun a1 c1 => .tuple #[.slice a1 n c1, .int .i64 (takeE l i who)]) (xs := ic (takeV l i who)) rfl (by kernel_rfl) (fun β ρ w' hM' => HT w' (hM'.at_ (.head _))) (fun a1 c_a1 h_a1 => ?_)
    (conv => arg 5; whnf)
    refine meetc (f := 37) (v := .bool (freeB l i)) rfl (by kernel_rfl) (fun β ρ w' hM' => free l a n c w' i hs hn (hM'.at_ (.tail _ (.head _)))) ?_
    rcases hok with ⟨k1, k2, k3, k4⟩ | ⟨k1, k2, k3⟩
    · have hfr : hasB l i = true ∧ (at_ l i == 0) = true := by
        unfold freeB at k2
        exact Bool.and_eq_true_iff.1 k2
      rw [k4] at l1
      rw [k1, k2, k4]
      have h2 := has_iff.1 hfr.1
      have h0 : at_ l i = 0 := by simpa using hfr.2
      obtain ⟨m1, m2⟩ := held_more l i who h2 h0 k3
      obtain ⟨b1, b2, b3⟩ := back l i who h2 h0 k3
      have hhl := held_le l who
      have hle2 : (withV l i who).length ≤ 1000000 := by rw [with_length]; exact hl
      have HG := fun (w : World) hrow => give (withV l i who) a1 n c_a1 w i who h_a1 l1 hrow hle2
      have HF := fun (w : World) hrow => free (withV l i who) a1 n c_a1 w i h_a1 l1 hrow
      have HH := fun (w : World) hrow => held (withV l i who) a1 n c_a1 w who h_a1 l1 hrow hle2
      have HI := fun (w : World) hrow => held l a n c w who hs hn hrow hl
      rw [b1, b2] at HG
      rw [b3] at HF
      generalize withV l i who = y at *
      generalize heldV y who = hv at *
      generalize heldV l who = hv0 at *
      (conv => arg 5; whnf)
      refine wp_prim (.bool false) (fun w => by rw [k3]; rfl) ?_
      (conv => arg 5; whnf)
      refine meet1 (f := 39) (n := hv.length) (v := fun a1 c1 => .slice a1 hv.length c1) (xs := ic hv) rfl (by kernel_rfl) (fun β ρ w' hM' => HH w' (hM'.at_ (.head _))) (fun a2 c_a2 h_a2 => ?_)
      (conv => arg 5; whnf)
      refine meet1 (f := 32) (n := n) (v := fun a1 c1 => .tuple #[.slice a1 n c1, .int .i64 0]) (xs := ic l) rfl (by kernel_rfl) (fun β ρ w' hM' => HG w' (hM'.at_ (.tail _ (.head _)))) (fun a3 c_a3 h_a3 => ?_)
      (conv => arg 5; whnf)
      refine loop_rule env_ok [] (by kernel_rfl) (fun k : Nat × Bool => k.1 ≤ hv.length ∧ k.2 = decide (i ∈ hv.take k.1)) (fun k => (⟨[], [], [rowF (pt a3 n) (ic l), rowF (pt a2 hv.length) (ic hv), rowF (pt a1 n) (ic y), rowF (pt a n) (ic l)]⟩, sl 99 [(0, .v (.slice a n c)), (1, .v (.int .i64 i)), (2, .v (.int .i64 who)), (7, .v (.slice a n c)), (8, .v (.slice a1 n c_a1)), (10, .v (.slice a2 hv.length c_a2)), (11, .v (.slice a3 n c_a3)), (12, .v (.int .i64 0)), (13, .v (.bool k.2)), (14, .v (.int .i64 (k.1 : Nat)))])) (fun k => hv.length - k.1) (0, false) ⟨Nat.zero_le _, by simp⟩ ⟨by repeat' first | exact trivial | refine ⟨.inl rfl, ?_⟩ | refine ⟨.inr rfl, ?_⟩, ⟨by repeat' first | exact trivial | refine ⟨.inl rfl, ?_⟩ | refine ⟨.inr rfl, ?_⟩, by repeat' first | exact trivial | refine ⟨.inl rfl, ?_⟩ | refine ⟨.inr rfl, ?_⟩, fun _ h => h⟩, rfl⟩ ?_
      have h263 := h_a2.le
      rintro ⟨k, mine⟩ ⟨hk, hr⟩
      simp only [] at hk hr
      (conv => arg 5; whnf)
      refine wp_br (fun g1 => ?_) (fun g1 => ?_)
      · have hlt : k < hv.length := by simp at g1; omega
        have hx : hv[k]? = some hv[k] := List.getElem?_eq_getElem (by omega)
        have htk : hv.take (k + 1) = hv.take k ++ [hv[k]] := by rw [List.take_add_one, hx]; rfl
        generalize hv[k] = x at *
        (conv => arg 5; whnf)
        refine wp_g0 (fun g2 => ?_) (fun g2 => ?_)
        · have g2 : mine = false := g2
          rw [g2] at hr
          have hr2 : ¬ (i ∈ hv.take k) := by simpa using hr.symm
          have hr3 : (x == i) = decide (i ∈ hv.take k ++ [x]) := by rw [Bool.eq_iff_iff, decide_eq_true_iff, beq_iff_eq, List.mem_append, List.mem_singleton]; exact ⟨fun e => .inr e.symm, fun e => (e.resolve_left hr2).symm⟩
          (conv => arg 5; whnf)
          refine wp_must ⟨by omega, by omega, h_a2.some hlt⟩ ?_
          (conv => arg 5; whnf)
          refine readP (.int .i64 (x)) rfl (.tail _ (.head _)) (show k < hv.length by omega) (h_a2.some (show k < hv.length by omega)) (ic_get (hx)) (j := k) (by simp) ?_
          (conv => arg 5; whnf)
          refine wp_must ⟨by omega, by omega⟩ ?_
          (conv => arg 5; whnf)
          refine wp_end ⟨(k + 1, x == i), ⟨hlt, by rw [htk]; exact hr3⟩, ⟨by repeat' first | exact trivial | refine ⟨.inl rfl, ?_⟩ | refine ⟨.inr rfl, ?_⟩, ⟨by repeat' first | exact trivial | refine ⟨.inl rfl, ?_⟩ | refine ⟨.inr rfl, ?_⟩, by repeat' first | exact trivial | refine ⟨.inl rfl, ?_⟩ | refine ⟨.inr rfl, ?_⟩, fun _ h => h⟩, rfl⟩, by show hv.length - (k + 1) < hv.length - k; omega⟩
        · have g2 : mine = true := g2
          rw [g2] at hr
          have hr2 : i ∈ hv.take k := by simpa using hr.symm
          have hr3 : true = decide (i ∈ hv.take k ++ [x]) := by exact (decide_eq_true (List.mem_append_left _ hr2)).symm
          (conv => arg 5; whnf)
          refine wp_must ⟨by omega, by omega⟩ ?_
          (conv => arg 5; whnf)
          refine wp_end ⟨(k + 1, true), ⟨hlt, by rw [htk]; exact hr3⟩, ⟨by repeat' first | exact trivial | refine ⟨.inl rfl, ?_⟩ | refine ⟨.inr rfl, ?_⟩, ⟨by repeat' first | exact trivial | refine ⟨.inl rfl, ?_⟩ | refine ⟨.inr rfl, ?_⟩, by repeat' first | exact trivial | refine ⟨.inl rfl, ?_⟩ | refine ⟨.inr rfl, ?_⟩, fun _ h => h⟩, rfl⟩, by show hv.length - (k + 1) < hv.length - k; omega⟩
      · have hkn : k = hv.length := by simp at g1; omega
        have hmt : mine = true := by rw [hr, hkn, List.take_length]; simpa using m2
        subst hmt
        (conv => arg 5; whnf)
        refine meet1 (f := 39) (n := hv0.length) (v := fun a1 c1 => .slice a1 hv0.length c1) (xs := ic hv0) rfl (by kernel_rfl) (fun β ρ w' hM' => HI w' (hM'.at_ (.tail _ (.tail _ (.tail _ (.head _)))))) (fun a4 c_a4 h_a4 => ?_)
        (conv => arg 5; whnf)
        refine wp_must ⟨by omega, by omega⟩ ?_
        (conv => arg 5; whnf)
        refine wp_g1 (fun _ => ?_) (fun h => by simp at h; omega)
        (conv => arg 5; whnf)
        refine meetc (f := 37) (v := .bool false) rfl (by kernel_rfl) (fun β ρ w' hM' => HF w' (hM'.at_ (.tail _ (.tail _ (.tail _ (.head _)))))) ?_
        (conv => arg 5; whnf)
        refine meetc (f := 36) (v := .bool true) rfl (by kernel_rfl) (fun β ρ w' hM' => same l a3 a n c_a3 c w' h_a3 hs hn (hM'.at_ (.tail _ (.head _))) (hM'.at_ (.tail _ (.tail _ (.tail _ (.tail _ (.head _))))))) ?_
        (conv => arg 5; whnf)
        refine meetc (f := 29) (v := .bool true) rfl (by kernel_rfl) (fun β ρ w' hM' => live w') ?_
        (conv => arg 5; whnf)
        exact wp_back fun β ρ w' hM' => ⟨rfl, hM'.below⟩
    · rw [k3]
      (conv => arg 5; whnf)
      refine wp_g1 (fun g1 => ?_) (fun g1 => ?_)
      · rw [g1] at k2
        have k5 : decide (who ≥ 1) = false := by simpa using k2
        have k6 : (takeE l i who == 0) = false := by simpa using k1
        (conv => arg 5; whnf)
        refine wp_prim (.bool false) (fun w => by rw [k6, k5]; rfl) ?_
        (conv => arg 5; whnf)
        refine wp_br (fun _ => ?_) (fun h => absurd h (by simpa using k1))
        (conv => arg 5; whnf)
        refine meetc (f := 36) (v := .bool true) rfl (by kernel_rfl) (fun β ρ w' hM' => same l a1 a n c_a1 c w' h_a1 hs hn (hM'.at_ (.head _)) (hM'.at_ (.tail _ (.head _)))) ?_
        (conv => arg 5; whnf)
        refine meetc (f := 29) (v := .bool true) rfl (by kernel_rfl) (fun β ρ w' hM' => live w') ?_
        (conv => arg 5; whnf)
        exact wp_back fun β ρ w' hM' => ⟨rfl, hM'.below⟩
      · have k6 : (takeE l i who == 0) = false := by simpa using k1
        (conv => arg 5; whnf)
        refine wp_prim (.bool false) (fun w => by rw [k6]; rfl) ?_
        (conv => arg 5; whnf)
        refine wp_br (fun _ => ?_) (fun h => absurd h (by simpa using k1))
        (conv => arg 5; whnf)
        refine meetc (f := 36) (v := .bool true) rfl (by kernel_rfl) (fun β ρ w' hM' => same l a1 a n c_a1 c w' h_a1 hs hn (hM'.at_ (.head _)) (hM'.at_ (.tail _ (.head _)))) ?_
        (conv => arg 5; whnf)
        refine meetc (f := 29) (v := .bool true) rfl (by kernel_rfl) (fun β ρ w' hM' => live w') ?_
        (conv => arg 5; whnf)
        exact wp_back fun β ρ w' hM' => ⟨rfl, hM'.below⟩
end Go.Proofs.Ytjeghmlingfnjaa.lockOwn
