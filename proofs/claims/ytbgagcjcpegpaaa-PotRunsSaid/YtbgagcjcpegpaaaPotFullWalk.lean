/- The walks of hopperlaw07's PotFull and PotOrder. -/
import Derived.Test.YtbgagcjcpegpaaaPotLive
namespace Go.Proofs.Ytbgagcjcpegpaaa.pot
open Go.RowKit Sx flt
theorem adjust_bad (t m d : Int) (w : World) (hd : Fits d) (h : ¬ (mayB t m = true ∧ -t ≤ d)) : Calls Try.prog 11 (List.toArray [two t m, .int .i64 d]) w fun e w' => e = .returned (.tuple #[two t m, .int .i64 1]) ∧ Below w.heap.size w w' := by
  have := adjust t m d w hd
  rwa [show adjT t m d = t from if_neg (fun h' => h ⟨h'.1, h'.2.1⟩), show adjE t m d = 1 from if_pos h] at this
theorem adjust_full (t m d : Int) (w : World) (hd : Fits d) (h : mayB t m = true ∧ -t ≤ d) (h2 : m - t < d) : Calls Try.prog 11 (List.toArray [two t m, .int .i64 d]) w fun e w' => e = .returned (.tuple #[two t m, .int .i64 6]) ∧ Below w.heap.size w w' := by
  have := adjust t m d w hd
  rwa [show adjT t m d = t from if_neg (by omega), show adjE t m d = 6 from by unfold adjE; rw [if_neg (by simpa using h), if_neg (by omega)]] at this
theorem adjust_ok (t m d : Int) (w : World) (hd : Fits d) (h : mayB t m = true ∧ -t ≤ d) (h2 : d ≤ m - t) : Calls Try.prog 11 (List.toArray [two t m, .int .i64 d]) w fun e w' => e = .returned (.tuple #[two (t + d) m, .int .i64 0]) ∧ Below w.heap.size w w' := by
  have := adjust t m d w hd
  rwa [show adjT t m d = t + d from if_pos ⟨h.1, h.2, h2⟩, show adjE t m d = 0 from by unfold adjE; rw [if_neg (by simpa using h), if_pos h2]] at this
theorem may_yes (t m : Int) (w : World) (h : mayB t m = true) : Calls Try.prog 20 (List.toArray [two t m]) w fun e w' => e = .returned (.bool true) ∧ Below w.heap.size w w' := by
  have := rmay t m w
  rwa [h] at this
theorem may_no (t m : Int) (w : World) (h : mayB t m = false) : Calls Try.prog 20 (List.toArray [two t m]) w fun e w' => e = .returned (.bool false) ∧ Below w.heap.size w w' := by
  have := rmay t m w
  rwa [h] at this
end Go.Proofs.Ytbgagcjcpegpaaa.pot
namespace Go.Proofs.Ytbgagcjcpegpaaa.potFull
open Go.RowKit Sx flt pot
set_option linter.unusedVariables false
set_option maxRecDepth 100000 in
set_option maxHeartbeats 2000000 in
theorem walk (a b d : Int) (w : World) (hp : Fits a ∧ Fits b) (hd : Fits d) : Calls Try.prog 6 (List.toArray [two a b, .int .i64 d]) w fun e w' => e = .returned (.bool true) ∧ Below w.heap.size w w' := by
  have hfa := hp.1
  have hfd := hd
  unfold Fits at hfa hfd
  cases hm : mayB a b with
  | false =>
    refine calls_of_exec env_ok Try.func6 rfl [] (by kernel_rfl) [] (by simp) ?_
    (conv => arg 5; whnf); refine meetc rfl (by kernel_rfl) (fun β ρ w' hM => adjust_bad a b d w' hd (by simp [hm])) ?_
    (conv => arg 5; whnf); refine meetc rfl (by kernel_rfl) (fun β ρ w' hM => may_no a b w' hm) ?_
    (conv => arg 5; whnf); refine wp_prim (.bool true) (fun w => (eql_own _ _ _ _ _ _ w).trans (by simp)) ?_
    (conv => arg 5; whnf); refine meetc rfl (by kernel_rfl) (fun β ρ w' hM => live w') ?_
    exact wp_back fun β ρ w' hM => ⟨rfl, hM.below⟩
  | true =>
    have hm' := (may_iff a b).1 hm
    by_cases h1 : -a ≤ d
    · by_cases h2 : d ≤ b - a
      · refine calls_of_exec env_ok Try.func6 rfl [] (by kernel_rfl) [] (by simp) ?_
        (conv => arg 5; whnf); refine meetc rfl (by kernel_rfl) (fun β ρ w' hM => adjust_ok a b d w' hd ⟨hm, h1⟩ h2) ?_
        (conv => arg 5; whnf); refine meetc rfl (by kernel_rfl) (fun β ρ w' hM => may_yes a b w' hm) ?_
        (conv => arg 5; whnf); refine meetc rfl (by kernel_rfl) (fun β ρ w' hM => may_yes (a + d) b w' ((may_iff _ _).2 (by omega))) ?_
        (conv => arg 5; whnf); refine wp_must (by omega) ?_
        (conv => arg 5; whnf); refine wp_g1 (fun h => ?_) (fun h => (by first | (simp at h; done) | (simp at h; omega) : False).elim)
        (conv => arg 5; whnf); refine meetc rfl (by kernel_rfl) (fun β ρ w' hM => live w') ?_
        exact wp_back fun β ρ w' hM => ⟨rfl, hM.below⟩
      · refine calls_of_exec env_ok Try.func6 rfl [] (by kernel_rfl) [] (by simp) ?_
        (conv => arg 5; whnf); refine meetc rfl (by kernel_rfl) (fun β ρ w' hM => adjust_full a b d w' hd ⟨hm, h1⟩ (by omega)) ?_
        (conv => arg 5; whnf); refine meetc rfl (by kernel_rfl) (fun β ρ w' hM => may_yes a b w' hm) ?_
        (conv => arg 5; whnf); refine wp_must (by omega) ?_
        (conv => arg 5; whnf); refine wp_g1 (fun h => ?_) (fun h => (by first | (simp at h; done) | (simp at h; omega) : False).elim)
        (conv => arg 5; whnf); refine wp_prim (.bool true) (fun w => (eql_own _ _ _ _ _ _ w).trans (by simp)) ?_
        (conv => arg 5; whnf); refine meetc rfl (by kernel_rfl) (fun β ρ w' hM => live w') ?_
        exact wp_back fun β ρ w' hM => ⟨rfl, hM.below⟩
    · refine calls_of_exec env_ok Try.func6 rfl [] (by kernel_rfl) [] (by simp) ?_
      (conv => arg 5; whnf); refine meetc rfl (by kernel_rfl) (fun β ρ w' hM => adjust_bad a b d w' hd (fun h => h1 h.2)) ?_
      (conv => arg 5; whnf); refine meetc rfl (by kernel_rfl) (fun β ρ w' hM => may_yes a b w' hm) ?_
      (conv => arg 5; whnf); refine wp_must (by omega) ?_
      (conv => arg 5; whnf); refine wp_g1 (fun h => ?_) (fun h => (by first | (simp at h; done) | (simp at h; omega) : False).elim)
      (conv => arg 5; whnf); refine wp_prim (.bool true) (fun w => (eql_own _ _ _ _ _ _ w).trans (by simp)) ?_
      (conv => arg 5; whnf); refine meetc rfl (by kernel_rfl) (fun β ρ w' hM => live w') ?_
      exact wp_back fun β ρ w' hM => ⟨rfl, hM.below⟩
end Go.Proofs.Ytbgagcjcpegpaaa.potFull
