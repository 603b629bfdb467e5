/- The walk of hopperlaw07.PotRuns. -/
import Derived.Test.YtbgagcjcpegpaaaPotFullWalk
namespace Go.Proofs.Ytbgagcjcpegpaaa.potRuns
open Go.RowKit Sx flt pot
set_option linter.unusedVariables false
set_option maxRecDepth 100000 in
set_option maxHeartbeats 4000000 in
theorem walk (most : Int) (a : Option Addr) (n c : Nat) (ns : List Int) (w : World) (hmf : Fits most) (hl : Sl a n c ∧ n = ns.length ∧ At w (pt a n) (ns.map (Value.int .i64)) ∧ ∀ z ∈ ns, Fits z) :
    Calls Try.prog 4 (List.toArray [.int .i64 most, .slice a n c]) w fun e w' => e = .returned (.bool true) ∧ Below w.heap.size w w' := by
  obtain ⟨hs, hn, hrow, hf⟩ := hl
  have hn63 := hs.le
  have hfree : ∀ (t : Int) (w : World), mayB t most = true → Calls Try.prog 15 (List.toArray [two t most]) w fun e w' => e = .returned (.int .i64 (most - t)) ∧ Below w.heap.size w w' := fun t w h => by
    have := free t most w
    rwa [show freeV t most = most - t from if_pos h] at this
  have hnew := fun w => new_ most w
  by_cases hmo : 1 ≤ most ∧ most ≤ 1000
  · rw [show newM most = most from if_pos hmo, show newE most = 0 from if_pos hmo] at hnew
    refine calls_of_exec env_ok Try.func4 rfl [(8, (.one 0 (.one 1 (.one 2 (.one 3 (.one 4 (.fork 5 (.one 6 (.one 7 (.one 8 (.one 9 (.one 10 (.one 11 (.done))))))) 9 (.one 5 (.one 6 (.one 7 (.one 8 (.one 10 (.one 11 (.done)))))))))))), [])), (10, (.one 0 (.one 1 (.one 2 (.one 3 (.one 4 (.one 5 (.fork 6 (.one 7 (.one 8 (.one 9 (.one 10 (.one 11 (.one 12 (.done))))))) 10 (.one 6 (.one 7 (.one 8 (.one 9 (.one 11 (.one 12 (.done))))))))))))), []))] (by kernel_rfl) [rowF (pt a n) (ns.map (Value.int .i64))] (at1 hrow) ?_
    (conv => arg 5; whnf)
    refine meetc (f := 13) rfl (by kernel_rfl) (fun β ρ w' hM => hnew w') ?_
    (conv => arg 5; whnf)
    refine wp_br (fun h => ?_) (fun h => ?_)
    · (conv => arg 5; whnf)
      refine loop_rule env_ok [(8, (.one 0 (.one 1 (.one 2 (.one 3 (.one 4 (.fork 5 (.one 6 (.one 7 (.one 8 (.one 9 (.one 10 (.one 11 (.done))))))) 9 (.one 5 (.one 6 (.one 7 (.one 8 (.one 10 (.one 11 (.done)))))))))))), [])), (10, (.one 0 (.one 1 (.one 2 (.one 3 (.one 4 (.one 5 (.fork 6 (.one 7 (.one 8 (.one 9 (.one 10 (.one 11 (.one 12 (.done))))))) 10 (.one 6 (.one 7 (.one 8 (.one 9 (.one 11 (.one 12 (.done))))))))))))), []))] (by kernel_rfl) (fun i : Nat × Int => i.1 ≤ n ∧ mayB i.2 most = true) (fun i => (⟨[some ([.v (.int .i64 i.2), .v (.int .i64 most)], 24)], [], [rowF (pt a n) (ns.map (Value.int .i64))]⟩, sl 110 [(0, .v (.int .i64 most)), (1, .v (.slice a n c)), (4, .v (.bool false)), (5, .p 0 0), (6, .v (.int .i64 0)), (7, .v (.int .i64 i.2)), (8, .v (.int .i64 i.1))])) (fun i => n - i.1) (0, 0) ⟨Nat.zero_le _, (may_iff _ _).2 (by omega)⟩ ⟨by repeat' first | exact trivial | refine ⟨.inl rfl, ?_⟩ | refine ⟨.inr rfl, ?_⟩, ⟨by repeat' first | exact trivial | refine ⟨.inl rfl, ?_⟩ | refine ⟨.inr rfl, ?_⟩, by repeat' first | exact trivial | refine ⟨.inl rfl, ?_⟩ | refine ⟨.inr rfl, ?_⟩, fun _ h => h⟩, rfl⟩ ?_
      rintro ⟨k, T⟩ ⟨hk, hm⟩
      simp only [] at hk hm
      (conv => arg 5; whnf)
      refine wp_br (fun hlt0 => ?_) (fun hge => ?_)
      · have hlt : k < n := by simp at hlt0; omega
        have hm' := (may_iff T most).1 hm
        have hx : ns[k]? = some ns[k] := List.getElem?_eq_getElem (by omega)
        have hd := hf ns[k] (List.mem_of_getElem? hx)
        generalize ns[k] = d at hx hd
        have hcell : (ns.map (Value.int .i64))[k]? = some (.int .i64 d) := by rw [List.getElem?_map, hx]; rfl
        clear hx hlt0 hrow hf hnew
        have hd' := hd
        unfold Fits at hd'
        by_cases h1 : -T ≤ d
        · by_cases h2 : d ≤ most - T
          · have hm1 : mayB (T + d) most = true := (may_iff _ _).2 (by omega)
            (conv => arg 5; whnf)
            refine wp_must ⟨by omega, by omega, hs.some hlt⟩ ?_
            (conv => arg 5; whnf)
            refine readP (.int .i64 d) rfl List.mem_cons_self hlt (hs.some hlt) hcell (j := k) (by simp) ?_
            (conv => arg 5; whnf)
            refine wp_both ?_ ?_
            all_goals
              (conv => arg 5; whnf)
              refine meetc (f := 11) rfl (by kernel_rfl) (fun β ρ w' hM => adjust_ok T most d w' hd ⟨hm, h1⟩ h2) ?_
              (conv => arg 5; whnf)
              refine wp_must ⟨by omega, by omega, hs.some hlt⟩ ?_
              (conv => arg 5; whnf)
              refine readP (.int .i64 d) rfl List.mem_cons_self hlt (hs.some hlt) hcell (j := k) (by simp) ?_
              (conv => arg 5; whnf)
              refine wp_must (by omega) ?_
              (conv => arg 5; whnf)
              refine wp_both ?_ ?_
              all_goals
                (conv => arg 5; whnf)
                refine meetc (f := 11) rfl (by kernel_rfl) (fun β ρ w' hM => adjust_ok (T + d) most (-d) w' (by unfold Fits; omega) ⟨hm1, by omega⟩ (by omega)) ?_
                (conv => arg 5; whnf)
                refine wp_prim (.bool false) (fun w => (neq_own _ _ _ _ _ _ w).trans (by simp <;> omega)) ?_
                (conv => arg 5; whnf)
                refine wp_must ⟨by omega, by omega, hs.some hlt⟩ ?_
                (conv => arg 5; whnf)
                refine readP (.int .i64 d) rfl List.mem_cons_self hlt (hs.some hlt) hcell (j := k) (by simp) ?_
                (conv => arg 5; whnf)
                refine wp_must (by omega) ?_
                (conv => arg 5; whnf)
                refine wp_br (fun h => ?_) (fun h => absurd h (by simp <;> omega))
                (conv => arg 5; whnf)
                refine wp_br (fun h => ?_) (fun h => absurd h (by simp <;> omega))
                (conv => arg 5; whnf)
                refine wp_br (fun h => ?_) (fun h => absurd h (by simp <;> omega))
                (conv => arg 5; whnf)
                refine meetc (f := 15) rfl (by kernel_rfl) (fun β ρ w' hM => hfree _ w' (hm1)) ?_
                (conv => arg 5; whnf)
                refine wp_must (by omega) ?_
                (conv => arg 5; whnf)
                refine wp_br (fun h => ?_) (fun h => absurd h (by simp <;> omega))
                (conv => arg 5; whnf)
                refine wp_br (fun h => absurd h (by simp)) (fun h => ?_)
                (conv => arg 5; whnf)
                refine wp_must (by omega) ?_
                (conv => arg 5; whnf)
                refine wp_end ⟨(k + 1, T + d), ⟨hlt, hm1⟩, ⟨by repeat' first | exact trivial | refine ⟨.inl rfl, ?_⟩ | refine ⟨.inr rfl, ?_⟩, ⟨by repeat' first | exact trivial | refine ⟨.inl rfl, ?_⟩ | refine ⟨.inr rfl, ?_⟩, by repeat' first | exact trivial | refine ⟨.inl rfl, ?_⟩ | refine ⟨.inr rfl, ?_⟩, fun _ h => h⟩, rfl⟩, by show n - (k + 1) < n - k; omega⟩
          · have hb := adjust_full T most d
            (conv => arg 5; whnf)
            refine wp_must ⟨by omega, by omega, hs.some hlt⟩ ?_
            (conv => arg 5; whnf)
            refine readP (.int .i64 d) rfl List.mem_cons_self hlt (hs.some hlt) hcell (j := k) (by simp) ?_
            (conv => arg 5; whnf)
            refine wp_both ?_ ?_
            all_goals
              (conv => arg 5; whnf)
              refine meetc (f := 11) rfl (by kernel_rfl) (fun β ρ w' hM => hb w' hd ⟨hm, h1⟩ (by omega)) ?_
              (conv => arg 5; whnf)
              refine wp_prim (.bool false) (fun w => (neq_own _ _ _ _ _ _ w).trans (by simp)) ?_
              (conv => arg 5; whnf)
              refine wp_br (fun h => ?_) (fun h => absurd h (by simp <;> omega))
              (conv => arg 5; whnf)
              refine wp_br (fun h => ?_) (fun h => absurd h (by simp <;> omega))
              (conv => arg 5; whnf)
              refine wp_br (fun h => ?_) (fun h => absurd h (by simp <;> omega))
              (conv => arg 5; whnf)
              refine meetc (f := 15) rfl (by kernel_rfl) (fun β ρ w' hM => hfree _ w' (hm)) ?_
              (conv => arg 5; whnf)
              refine wp_must (by omega) ?_
              (conv => arg 5; whnf)
              refine wp_br (fun h => ?_) (fun h => absurd h (by simp <;> omega))
              (conv => arg 5; whnf)
              refine wp_br (fun h => absurd h (by simp)) (fun h => ?_)
              (conv => arg 5; whnf)
              refine wp_must (by omega) ?_
              (conv => arg 5; whnf)
              refine wp_end ⟨(k + 1, T), ⟨hlt, hm⟩, ⟨by repeat' first | exact trivial | refine ⟨.inl rfl, ?_⟩ | refine ⟨.inr rfl, ?_⟩, ⟨by repeat' first | exact trivial | refine ⟨.inl rfl, ?_⟩ | refine ⟨.inr rfl, ?_⟩, by repeat' first | exact trivial | refine ⟨.inl rfl, ?_⟩ | refine ⟨.inr rfl, ?_⟩, fun _ h => h⟩, rfl⟩, by show n - (k + 1) < n - k; omega⟩
        · have hb := adjust_bad T most d
          (conv => arg 5; whnf)
          refine wp_must ⟨by omega, by omega, hs.some hlt⟩ ?_
          (conv => arg 5; whnf)
          refine readP (.int .i64 d) rfl List.mem_cons_self hlt (hs.some hlt) hcell (j := k) (by simp) ?_
          (conv => arg 5; whnf)
          refine wp_both ?_ ?_
          all_goals
            (conv => arg 5; whnf)
            refine meetc (f := 11) rfl (by kernel_rfl) (fun β ρ w' hM => hb w' hd (fun h => h1 h.2)) ?_
            (conv => arg 5; whnf)
            refine wp_prim (.bool false) (fun w => (neq_own _ _ _ _ _ _ w).trans (by simp)) ?_
            (conv => arg 5; whnf)
            refine wp_br (fun h => ?_) (fun h => absurd h (by simp <;> omega))
            (conv => arg 5; whnf)
            refine wp_br (fun h => ?_) (fun h => absurd h (by simp <;> omega))
            (conv => arg 5; whnf)
            refine wp_br (fun h => ?_) (fun h => absurd h (by simp <;> omega))
            (conv => arg 5; whnf)
            refine meetc (f := 15) rfl (by kernel_rfl) (fun β ρ w' hM => hfree _ w' (hm)) ?_
            (conv => arg 5; whnf)
            refine wp_must (by omega) ?_
            (conv => arg 5; whnf)
            refine wp_br (fun h => ?_) (fun h => absurd h (by simp <;> omega))
            (conv => arg 5; whnf)
            refine wp_br (fun h => absurd h (by simp)) (fun h => ?_)
            (conv => arg 5; whnf)
            refine wp_must (by omega) ?_
            (conv => arg 5; whnf)
            refine wp_end ⟨(k + 1, T), ⟨hlt, hm⟩, ⟨by repeat' first | exact trivial | refine ⟨.inl rfl, ?_⟩ | refine ⟨.inr rfl, ?_⟩, ⟨by repeat' first | exact trivial | refine ⟨.inl rfl, ?_⟩ | refine ⟨.inr rfl, ?_⟩, by repeat' first | exact trivial | refine ⟨.inl rfl, ?_⟩ | refine ⟨.inr rfl, ?_⟩, fun _ h => h⟩, rfl⟩, by show n - (k + 1) < n - k; omega⟩
      · (conv => arg 5; whnf)
        refine meetc (f := 19) rfl (by kernel_rfl) (fun β ρ w' hM => live w') ?_
        (conv => arg 5; whnf)
        exact wp_back fun β ρ w' hM => ⟨rfl, hM.below⟩
    · have h2 := h
      (conv => arg 5; whnf)
      refine wp_br (fun h => absurd (h.symm.trans h2) (by simp)) (fun h => ?_)
      (conv => arg 5; whnf)
      refine meetc (f := 19) rfl (by kernel_rfl) (fun β ρ w' hM => live w') ?_
      (conv => arg 5; whnf)
      exact wp_back fun β ρ w' hM => ⟨rfl, hM.below⟩
  · rw [show newM most = 0 from if_neg hmo, show newE most = 1 from if_neg hmo] at hnew
    refine calls_of_exec env_ok Try.func4 rfl [(8, (.one 0 (.one 1 (.one 2 (.one 3 (.one 4 (.fork 5 (.one 6 (.one 7 (.one 8 (.one 9 (.one 10 (.one 11 (.done))))))) 9 (.one 5 (.one 6 (.one 7 (.one 8 (.one 10 (.one 11 (.done)))))))))))), [])), (10, (.one 0 (.one 1 (.one 2 (.one 3 (.one 4 (.one 5 (.fork 6 (.one 7 (.one 8 (.one 9 (.one 10 (.one 11 (.one 12 (.done))))))) 10 (.one 6 (.one 7 (.one 8 (.one 9 (.one 11 (.one 12 (.done))))))))))))), []))] (by kernel_rfl) [rowF (pt a n) (ns.map (Value.int .i64))] (at1 hrow) ?_
    (conv => arg 5; whnf)
    refine meetc (f := 13) rfl (by kernel_rfl) (fun β ρ w' hM => hnew w') ?_
    (conv => arg 5; whnf)
    refine wp_br (fun h2 => ?_) (fun h2 => ?_)
    · (conv => arg 5; whnf)
      refine wp_br (fun h => ?_) (fun h => absurd (h.symm.trans h2) (by simp))
      (conv => arg 5; whnf)
      refine wp_prim (.bool true) (fun w => (eql_own _ _ _ _ _ _ w).trans (by simp)) ?_
      (conv => arg 5; whnf)
      refine meetc (f := 19) rfl (by kernel_rfl) (fun β ρ w' hM => live w') ?_
      (conv => arg 5; whnf)
      exact wp_back fun β ρ w' hM => ⟨rfl, hM.below⟩
    · (conv => arg 5; whnf)
      refine wp_br (fun h => absurd (h.symm.trans h2) (by simp)) (fun h => ?_)
      (conv => arg 5; whnf)
      refine meetc (f := 19) rfl (by kernel_rfl) (fun β ρ w' hM => live w') ?_
      (conv => arg 5; whnf)
      exact wp_back fun β ρ w' hM => ⟨rfl, hM.below⟩
end Go.Proofs.Ytbgagcjcpegpaaa.potRuns
