/- The walk of hopperlaw09.LockRuns. -/
import Derived.Test.YtjeghmlingfnjaaLockLive
import Derived.Test.YtjeghmlingfnjaaIntsOpen
namespace Go.Proofs.Ytjeghmlingfnjaa.lockRuns
open Go.RowKit Sx lock ints
set_option linter.unusedVariables false
set_option linter.unusedSimpArgs false
theorem pc_get {ps : List (Int × Int)} {k : Nat} {p : Int × Int} (h : ps[k]? = some p) : (pc ps)[k * 2]? = some (.int .i64 p.1) ∧ (pc ps)[k * 2 + 1]? = some (.int .i64 p.2) := by
  induction ps generalizing k with
  | nil => simp at h
  | cons q ps ih =>
    cases k with
    | zero => simp at h; subst h; exact ⟨rfl, rfl⟩
    | succ k =>
      have := ih (k := k) (by simpa using h)
      rw [show (k + 1) * 2 = k * 2 + 1 + 1 from by omega]
      exact ⟨this.1, this.2⟩
theorem info_int : ∃ i, Try.prog.info? 3 = some i ∧ i.size = 1 := info_size (by kernel_rfl)
theorem ix2 (ad : Addr) (j : Int) (h : 0 ≤ j ∧ j < 2) (w : World) : (do pure (Next.value (← Instr.indexAt 70 (.pointer (some ad)) (.int .i64 j))) : Sem Next).run Try.prog w = .ok (.value (.pointer (some (ad.add j.toNat)))) w := by
  obtain ⟨i, hi, hsz⟩ := info_int
  simp [Instr.indexAt, asIntOf, run_underlying Try.underlying70, sizeOf, typeInfo, hi, hsz, Instr.sureAddr, h.1, h.2, Sem.run_bind]
def HOW : List (FuncId × How) := (36, .lend) :: env.how
abbrev St := Nat × List Int × Option Addr × Nat
set_option maxHeartbeats 4000000 in
set_option maxRecDepth 100000 in
theorem walk (x : Int) (a : Option Addr) (n c : Nat) (ps : List (Int × Int)) (w : World) (hx : Fits x) (hl : Sl a n c ∧ n = ps.length ∧ At w (pt a n) (pc ps) ∧ ∀ z ∈ ps, Fits z.1 ∧ Fits z.2) : Calls Try.prog 8 (List.toArray [.int .i64 x, .slice a n c]) w fun e w' =>  e = .returned (.bool true) ∧ Below w.heap.size w w' := by
  obtain ⟨hs, hn, hrow, hf⟩ := hl
  have hn63 := hs.le
  have HN := fun w => new_ x w
  refine calls_of_exec (env_ok.how HOW) Try.func8 rfl [] (by kernel_rfl) [rowF (pt a n) (pc ps)] (at1 hrow) ?_
  (conv => arg 5; whnf)
  refine meet1 (f := 34) (n := (newV x).length) (v := fun a1 c1 => .tuple #[.slice a1 (newV x).length c1, .int .i64 (newE x)]) (xs := ic (newV x)) rfl (by kernel_rfl) (fun β ρ w' hM' => HN w') (fun a1 c_a1 h_a1 => ?_)
  (conv => arg 5; whnf)
  refine wp_g0 (fun g1 => ?_) (fun g1 => ?_)
  · by_cases hx8 : 1 ≤ x ∧ x ≤ 8
    · have e1 : newV x = List.replicate x.toNat 0 := if_pos hx8
      have e2 : newE x = 0 := if_pos hx8
      rw [e1, List.length_replicate] at h_a1
      rw [e1, e2, List.length_replicate]
      generalize hN : x.toNat = N at *
      have hNx : (N : Int) = x := by omega
      (conv => arg 5; whnf)
      refine wp_must ⟨by omega, rfl, by omega, by omega⟩ ?_
      (conv => arg 5; whnf)
      rw [hN, reps_ic]; refine loop_rule (env_ok.how HOW) [] (by kernel_rfl) (fun j : St => j.1 ≤ n ∧ j.2.1.length = N ∧ Sl j.2.2.1 N j.2.2.2) (fun j => (⟨[], [some ⟨3, 1, N, ic j.2.1⟩], [rowF (pt j.2.2.1 N) (ic j.2.1), rowF (pt a n) (pc ps)]⟩, sl 124 [(0, .v (.int .i64 x)), (1, .v (.slice a n c)), (4, .v (.bool false)), (5, .v (.slice j.2.2.1 N j.2.2.2)), (6, .v (.int .i64 0)), (7, .r 0), (8, .v (.int .i64 (j.1 : Nat)))])) (fun j => n - j.1) (0, List.replicate N 0, a1, c_a1) ⟨Nat.zero_le _, List.length_replicate, h_a1⟩ ⟨by repeat' first | exact trivial | refine ⟨.inl rfl, ?_⟩ | refine ⟨.inr rfl, ?_⟩, ⟨by repeat' first | exact trivial | refine ⟨.inl rfl, ?_⟩ | refine ⟨.inr rfl, ?_⟩, by repeat' first | exact trivial | refine ⟨.inl rfl, ?_⟩ | refine ⟨.inr rfl, ?_⟩, fun φ h => by simp only [List.mem_cons, List.not_mem_nil, or_false] at h; rcases h with rfl | rfl; exact (.head _); exact (.tail _ (.head _))⟩, rfl⟩ ?_
      clear h_a1 a1 c_a1 g1
      rintro ⟨k, tl, ta, tc⟩ ⟨hk, htl, hts⟩
      simp only [] at hk htl hts
      (conv => arg 5; whnf)
      refine wp_br (fun g2 => ?_) (fun g2 => ?_)
      · have hlt : k < n := by simp at g2; omega
        have hq : ps[k]? = some ps[k] := List.getElem?_eq_getElem (by omega)
        have hfit := hf ps[k] (List.mem_of_getElem? hq)
        obtain ⟨q1, q2⟩ := pc_get hq
        generalize ps[k] = p at *
        obtain ⟨i, who⟩ := p
        simp only [] at q1 q2 hfit
        unfold Fits at hfit
        (conv => arg 5; whnf)
        refine wp_must ⟨by omega, by omega, hs.some hlt⟩ ?_
        (conv => arg 5; whnf)
        refine wp_prim _ (fun w => ix2 _ 0 (by omega) w) ?_
        (conv => arg 5; whnf)
        refine readP (.int .i64 (i)) rfl (.tail _ (.head _)) (show k < n by omega) (hs.some hlt) q1 (j := k * 2) (by cases a <;> simp [Addr.add_add]) ?_
        (conv => arg 5; whnf)
        refine wp_must ⟨by omega, by omega, hs.some hlt⟩ ?_
        (conv => arg 5; whnf)
        refine wp_prim _ (fun w => ix2 _ 1 (by omega) w) ?_
        (conv => arg 5; whnf)
        refine readP (.int .i64 (who)) rfl (.tail _ (.head _)) (show k < n by omega) (hs.some hlt) q2 (j := k * 2 + 1) (by cases a <;> simp [Addr.add_add]) ?_
        (conv => arg 5; whnf)
        refine wp_g0 (fun g3 => ?_) (fun g3 => ?_)
        · skip
          (conv => arg 5; whnf)
          refine wp_g0 (fun g4 => ?_) (fun g4 => ?_)
          · skip
            (conv => arg 5; whnf)
            refine wp_g0 (fun g5 => ?_) (fun g5 => ?_)
            · skip
              (conv => arg 5; whnf)
              refine wp_br (fun g6 => ?_) (fun g6 => ?_)
              · (conv => arg 5; whnf)
                refine wp_must ⟨by omega, by omega⟩ ?_
                (conv => arg 5; whnf)
                refine wp_end ⟨(k + 1, tl, ta, tc), ⟨hlt, htl, hts⟩, ⟨by repeat' first | exact trivial | refine ⟨.inl rfl, ?_⟩ | refine ⟨.inr rfl, ?_⟩, ⟨by repeat' first | exact trivial | refine ⟨.inl rfl, ?_⟩ | refine ⟨.inr rfl, ?_⟩, by repeat' first | exact trivial | refine ⟨.inl rfl, ?_⟩ | refine ⟨.inr rfl, ?_⟩, fun φ h => by simp only [List.mem_cons, List.not_mem_nil, or_false] at h; rcases h with rfl | rfl; exact (.head _); exact (.tail _ (.head _))⟩, rfl⟩, by show n - (k + 1) < n - k; omega⟩
              · have hi0 : 0 ≤ i ∧ i < tl.length := by simp at g3 g4; omega
                have hw0 : who ≠ 0 := by simpa using g5
                have hwm : -1000 ≤ who := by simp at g6; omega
                have hat := at_get hi0
                have hat2 := ic_get hat
                (conv => arg 5; whnf)
                refine wp_br (fun g7 => ?_) (fun g7 => ?_)
                · have hwd : decide (who ≥ 1) = true := by simp at g7 ⊢; omega
                  have hhas : hasB tl i = true := has_iff.2 hi0
                  have hok : (takeE tl i (who) = 0 ∧ takeV tl i (who) = withV tl i (who) ∧ (at_ tl i == 0) = true) ∨ ((takeE tl i (who) == 0) = false ∧ takeV tl i (who) = tl ∧ (at_ tl i == 0) = false) := by
                    unfold takeV takeE
                    rw [hhas, hwd]
                    cases (at_ tl i == 0) <;> simp
                  have HT := fun (w : World) hrow => take tl ta N tc w i (who) hts htl.symm hrow (by omega)
                  (conv => arg 5; whnf)
                  refine meet1 (f := 30) (n := N) (v := fun a1 c1 => .tuple #[.slice a1 N c1, .int .i64 (takeE tl i (who))]) (xs := ic (takeV tl i (who))) rfl (by kernel_rfl) (fun β ρ w' hM' => HT w' (hM'.at_ (.head _))) (fun a3 c_a3 h_a3 => ?_)
                  (conv => arg 5; whnf)
                  refine wp_must ⟨by omega, by show i < (N : Int); omega⟩ ?_
                  (conv => arg 5; whnf)
                  refine ⟨[.int .i64 (at_ tl i)], rfl, fun j u hu => (by cases j with | zero => (simp at hu; subst hu; rw [Nat.mul_one, Nat.add_zero]; exact hat2) | succ j => simp at hu), ?_⟩
                  rcases hok with ⟨k1, k2, k3⟩ | ⟨k1, k2, k3⟩
                  · rw [k1, k2]
                    (conv => arg 5; whnf)
                    refine wp_prim (.bool false) (fun w => by rw [k3]; rfl) ?_
                    (conv => arg 5; whnf)
                    refine wp_must ⟨by omega, by show i < (N : Int); omega⟩ ?_
                    (conv => arg 5; whnf)
                    refine wp_must (by rw [ic_length]; show i.toNat * 1 + 1 ≤ tl.length; omega) ?_
                    have e3 : spl (ic tl) (i.toNat * 1) [.int .i64 (who)] = ic (withV tl i (who)) := by rw [Nat.mul_one]; exact spl_set tl i.toNat _ (by omega)
                    rw [e3]
                    have hwl : (withV tl i (who)).length = N := by rw [with_length, htl]
                    (conv => arg 5; whnf)
                    refine meet2 (f := 36) (n := N) (n' := N) (v := .bool true) (xs := ic (withV tl i (who))) (xs' := ic (withV tl i (who))) (holds_v h_a3 (.head _)) (by exact holds_r (i := 0) (r := ⟨3, 1, N, ic (withV tl i (who))⟩) rfl) (by kernel_rfl) (fun a1 b1 c1 d1 w1 s1 s2 r1 r2 => same _ a1 b1 N c1 d1 w1 s1 s2 (by rw [hwl]) r1 r2) ?_
                    (conv => arg 5; whnf)
                    refine wp_must ⟨by omega, by omega⟩ ?_
                    (conv => arg 5; whnf)
                    refine wp_end ⟨(k + 1, withV tl i (who), a3, c_a3), ⟨hlt, hwl, h_a3⟩, ⟨by repeat' first | exact trivial | refine ⟨.inl rfl, ?_⟩ | refine ⟨.inr rfl, ?_⟩, ⟨by repeat' first | exact trivial | refine ⟨.inl rfl, ?_⟩ | refine ⟨.inr rfl, ?_⟩, by repeat' first | exact trivial | refine ⟨.inl rfl, ?_⟩ | refine ⟨.inr rfl, ?_⟩, fun φ h => by simp only [List.mem_cons, List.not_mem_nil, or_false] at h; rcases h with rfl | rfl; exact (.head _); exact (.tail _ (.tail _ (.head _)))⟩, rfl⟩, by show n - (k + 1) < n - k; omega⟩
                  · rw [k2]
                    (conv => arg 5; whnf)
                    refine wp_prim (.bool false) (fun w => by rw [k1, k3]; rfl) ?_
                    (conv => arg 5; whnf)
                    refine wp_br (fun h => absurd h (by rw [k1]; simp)) (fun _ => ?_)
                    (conv => arg 5; whnf)
                    refine meet2 (f := 36) (n := N) (n' := N) (v := .bool true) (xs := ic (tl)) (xs' := ic (tl)) (holds_v h_a3 (.head _)) (by exact holds_r (i := 0) (r := ⟨3, 1, N, ic tl⟩) rfl) (by kernel_rfl) (fun a1 b1 c1 d1 w1 s1 s2 r1 r2 => same _ a1 b1 N c1 d1 w1 s1 s2 (by rw [htl]) r1 r2) ?_
                    (conv => arg 5; whnf)
                    refine wp_must ⟨by omega, by omega⟩ ?_
                    (conv => arg 5; whnf)
                    refine wp_end ⟨(k + 1, tl, a3, c_a3), ⟨hlt, htl, h_a3⟩, ⟨by repeat' first | exact trivial | refine ⟨.inl rfl, ?_⟩ | refine ⟨.inr rfl, ?_⟩, ⟨by repeat' first | exact trivial | refine ⟨.inl rfl, ?_⟩ | refine ⟨.inr rfl, ?_⟩, by repeat' first | exact trivial | refine ⟨.inl rfl, ?_⟩ | refine ⟨.inr rfl, ?_⟩, fun φ h => by simp only [List.mem_cons, List.not_mem_nil, or_false] at h; rcases h with rfl | rfl; exact (.head _); exact (.tail _ (.tail _ (.head _)))⟩, rfl⟩, by show n - (k + 1) < n - k; omega⟩
                · have hwd : decide (-who ≥ 1) = true := by simp at g7 ⊢; omega
                  have hhas : hasB tl i = true := has_iff.2 hi0
                  have hok : (giveE tl i (-who) = 0 ∧ giveV tl i (-who) = withV tl i (0) ∧ (at_ tl i == (-who)) = true) ∨ ((giveE tl i (-who) == 0) = false ∧ giveV tl i (-who) = tl ∧ (at_ tl i == (-who)) = false) := by
                    unfold giveV giveE
                    rw [hhas, hwd]
                    cases (at_ tl i == (-who)) <;> simp
                  have HT := fun (w : World) hrow => give tl ta N tc w i (-who) hts htl.symm hrow (by omega)
                  (conv => arg 5; whnf)
                  refine wp_must ⟨by omega, by omega⟩ ?_
                  (conv => arg 5; whnf)
                  refine meet1 (f := 32) (n := N) (v := fun a1 c1 => .tuple #[.slice a1 N c1, .int .i64 (giveE tl i (-who))]) (xs := ic (giveV tl i (-who))) rfl (by kernel_rfl) (fun β ρ w' hM' => HT w' (hM'.at_ (.head _))) (fun a3 c_a3 h_a3 => ?_)
                  (conv => arg 5; whnf)
                  refine wp_must ⟨by omega, by show i < (N : Int); omega⟩ ?_
                  (conv => arg 5; whnf)
                  refine ⟨[.int .i64 (at_ tl i)], rfl, fun j u hu => (by cases j with | zero => (simp at hu; subst hu; rw [Nat.mul_one, Nat.add_zero]; exact hat2) | succ j => simp at hu), ?_⟩
                  (conv => arg 5; whnf)
                  refine wp_must ⟨by omega, by omega⟩ ?_
                  rcases hok with ⟨k1, k2, k3⟩ | ⟨k1, k2, k3⟩
                  · rw [k1, k2]
                    (conv => arg 5; whnf)
                    refine wp_prim (.bool false) (fun w => by rw [k3]; rfl) ?_
                    (conv => arg 5; whnf)
                    refine wp_must ⟨by omega, by show i < (N : Int); omega⟩ ?_
                    (conv => arg 5; whnf)
                    refine wp_must (by rw [ic_length]; show i.toNat * 1 + 1 ≤ tl.length; omega) ?_
                    have e3 : spl (ic tl) (i.toNat * 1) [.int .i64 (0)] = ic (withV tl i (0)) := by rw [Nat.mul_one]; exact spl_set tl i.toNat _ (by omega)
                    rw [e3]
                    have hwl : (withV tl i (0)).length = N := by rw [with_length, htl]
                    (conv => arg 5; whnf)
                    refine meet2 (f := 36) (n := N) (n' := N) (v := .bool true) (xs := ic (withV tl i (0))) (xs' := ic (withV tl i (0))) (holds_v h_a3 (.head _)) (by exact holds_r (i := 0) (r := ⟨3, 1, N, ic (withV tl i (0))⟩) rfl) (by kernel_rfl) (fun a1 b1 c1 d1 w1 s1 s2 r1 r2 => same _ a1 b1 N c1 d1 w1 s1 s2 (by rw [hwl]) r1 r2) ?_
                    (conv => arg 5; whnf)
                    refine wp_must ⟨by omega, by omega⟩ ?_
                    (conv => arg 5; whnf)
                    refine wp_end ⟨(k + 1, withV tl i (0), a3, c_a3), ⟨hlt, hwl, h_a3⟩, ⟨by repeat' first | exact trivial | refine ⟨.inl rfl, ?_⟩ | refine ⟨.inr rfl, ?_⟩, ⟨by repeat' first | exact trivial | refine ⟨.inl rfl, ?_⟩ | refine ⟨.inr rfl, ?_⟩, by repeat' first | exact trivial | refine ⟨.inl rfl, ?_⟩ | refine ⟨.inr rfl, ?_⟩, fun φ h => by simp only [List.mem_cons, List.not_mem_nil, or_false] at h; rcases h with rfl | rfl; exact (.head _); exact (.tail _ (.tail _ (.head _)))⟩, rfl⟩, by show n - (k + 1) < n - k; omega⟩
                  · rw [k2]
                    (conv => arg 5; whnf)
                    refine wp_prim (.bool false) (fun w => by rw [k1, k3]; rfl) ?_
                    (conv => arg 5; whnf)
                    refine wp_br (fun h => absurd h (by rw [k1]; simp)) (fun _ => ?_)
                    (conv => arg 5; whnf)
                    refine meet2 (f := 36) (n := N) (n' := N) (v := .bool true) (xs := ic (tl)) (xs' := ic (tl)) (holds_v h_a3 (.head _)) (by exact holds_r (i := 0) (r := ⟨3, 1, N, ic tl⟩) rfl) (by kernel_rfl) (fun a1 b1 c1 d1 w1 s1 s2 r1 r2 => same _ a1 b1 N c1 d1 w1 s1 s2 (by rw [htl]) r1 r2) ?_
                    (conv => arg 5; whnf)
                    refine wp_must ⟨by omega, by omega⟩ ?_
                    (conv => arg 5; whnf)
                    refine wp_end ⟨(k + 1, tl, a3, c_a3), ⟨hlt, htl, h_a3⟩, ⟨by repeat' first | exact trivial | refine ⟨.inl rfl, ?_⟩ | refine ⟨.inr rfl, ?_⟩, ⟨by repeat' first | exact trivial | refine ⟨.inl rfl, ?_⟩ | refine ⟨.inr rfl, ?_⟩, by repeat' first | exact trivial | refine ⟨.inl rfl, ?_⟩ | refine ⟨.inr rfl, ?_⟩, fun φ h => by simp only [List.mem_cons, List.not_mem_nil, or_false] at h; rcases h with rfl | rfl; exact (.head _); exact (.tail _ (.tail _ (.head _)))⟩, rfl⟩, by show n - (k + 1) < n - k; omega⟩
            · (conv => arg 5; whnf)
              refine wp_must ⟨by omega, by omega⟩ ?_
              (conv => arg 5; whnf)
              refine wp_end ⟨(k + 1, tl, ta, tc), ⟨hlt, htl, hts⟩, ⟨by repeat' first | exact trivial | refine ⟨.inl rfl, ?_⟩ | refine ⟨.inr rfl, ?_⟩, ⟨by repeat' first | exact trivial | refine ⟨.inl rfl, ?_⟩ | refine ⟨.inr rfl, ?_⟩, by repeat' first | exact trivial | refine ⟨.inl rfl, ?_⟩ | refine ⟨.inr rfl, ?_⟩, fun φ h => by simp only [List.mem_cons, List.not_mem_nil, or_false] at h; rcases h with rfl | rfl; exact (.head _); exact (.tail _ (.head _))⟩, rfl⟩, by show n - (k + 1) < n - k; omega⟩
          · (conv => arg 5; whnf)
            refine wp_must ⟨by omega, by omega⟩ ?_
            (conv => arg 5; whnf)
            refine wp_end ⟨(k + 1, tl, ta, tc), ⟨hlt, htl, hts⟩, ⟨by repeat' first | exact trivial | refine ⟨.inl rfl, ?_⟩ | refine ⟨.inr rfl, ?_⟩, ⟨by repeat' first | exact trivial | refine ⟨.inl rfl, ?_⟩ | refine ⟨.inr rfl, ?_⟩, by repeat' first | exact trivial | refine ⟨.inl rfl, ?_⟩ | refine ⟨.inr rfl, ?_⟩, fun φ h => by simp only [List.mem_cons, List.not_mem_nil, or_false] at h; rcases h with rfl | rfl; exact (.head _); exact (.tail _ (.head _))⟩, rfl⟩, by show n - (k + 1) < n - k; omega⟩
        · (conv => arg 5; whnf)
          refine wp_must ⟨by omega, by omega⟩ ?_
          (conv => arg 5; whnf)
          refine wp_end ⟨(k + 1, tl, ta, tc), ⟨hlt, htl, hts⟩, ⟨by repeat' first | exact trivial | refine ⟨.inl rfl, ?_⟩ | refine ⟨.inr rfl, ?_⟩, ⟨by repeat' first | exact trivial | refine ⟨.inl rfl, ?_⟩ | refine ⟨.inr rfl, ?_⟩, by repeat' first | exact trivial | refine ⟨.inl rfl, ?_⟩ | refine ⟨.inr rfl, ?_⟩, fun φ h => by simp only [List.mem_cons, List.not_mem_nil, or_false] at h; rcases h with rfl | rfl; exact (.head _); exact (.tail _ (.head _))⟩, rfl⟩, by show n - (k + 1) < n - k; omega⟩
      · (conv => arg 5; whnf)
        refine meetc (f := 29) (v := .bool true) rfl (by kernel_rfl) (fun β ρ w' hM' => live w') ?_
        (conv => arg 5; whnf)
        exact wp_back fun β ρ w' hM' => ⟨rfl, hM'.below⟩
    · have e2 : newE x = 1 := if_neg hx8
      have e1 : newV x = [] := if_neg hx8
      rw [e1, e2]
      (conv => arg 5; whnf)
      refine wp_g0 (fun _ => ?_) (fun h => absurd h (by rw [g1]; simp))
      (conv => arg 5; whnf)
      refine meetc (f := 29) (v := .bool true) rfl (by kernel_rfl) (fun β ρ w' hM' => live w') ?_
      (conv => arg 5; whnf)
      exact wp_back fun β ρ w' hM' => ⟨rfl, hM'.below⟩
  · (conv => arg 5; whnf)
    refine wp_g0 (fun h => absurd h (by rw [g1]; simp)) (fun _ => ?_)
    (conv => arg 5; whnf)
    refine meetc (f := 29) (v := .bool true) rfl (by kernel_rfl) (fun β ρ w' hM' => live w') ?_
    (conv => arg 5; whnf)
    exact wp_back fun β ρ w' hM' => ⟨rfl, hM'.below⟩
end Go.Proofs.Ytjeghmlingfnjaa.lockRuns
