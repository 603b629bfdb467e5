/- The walk of hopperlaw07.PotOrder. -/
import Derived.Test.YtbgagcjcpegpaaaPotLive
namespace Go.Proofs.Ytbgagcjcpegpaaa.potOrder
open Go.RowKit Sx flt pot
set_option linter.unusedVariables false
set_option maxRecDepth 100000 in
set_option maxHeartbeats 2000000 in
theorem walk (t m a b : Int) (w : World) (hp : Fits t ∧ Fits m) (ha : Fits a) (hb : Fits b) : Calls Try.prog 5 (List.toArray [two t m, .int .i64 a, .int .i64 b]) w fun e w' => e = .returned (.bool true) ∧ Below w.heap.size w w' := by
  have hfree : mayB t m = true → freeV t m = m - t := fun h => by unfold freeV; rw [if_pos h]
  have hov : mayB t m = true → overV t m 0 = t := fun h => by
    have h' := (may_iff t m).1 h
    unfold overV
    by_cases q : 0 < t <;> simp [h, q] <;> omega
  have hov2 : overV t m m = 0 := by
    unfold overV
    by_cases h : mayB t m = true
    · have h' := (may_iff t m).1 h
      rw [if_neg (by omega)]
    · rw [if_neg (fun h' => h h'.1)]
  have z : ∀ t d : Int, adjE t m d = 0 → (mayB t m = true ∧ -t ≤ d ∧ d ≤ m - t) ∧ adjT t m d = t + d := fun t d h => by
    have h1 : mayB t m = true ∧ -t ≤ d := by
      by_cases q : mayB t m = true ∧ -t ≤ d
      · exact q
      · unfold adjE at h; rw [if_pos q] at h; omega
    have h2 : d ≤ m - t := by
      unfold adjE at h; rw [if_neg (by simpa using h1)] at h
      by_cases q : d ≤ m - t
      · exact q
      · rw [if_neg q] at h; omega
    exact ⟨⟨h1.1, h1.2, h2⟩, if_pos ⟨h1.1, h1.2, h2⟩⟩
  have key : adjE t m a = 0 → adjE (adjT t m a) m b = 0 → adjE t m b = 0 → adjE (adjT t m b) m a = 0 → adjT (adjT t m a) m b = adjT (adjT t m b) m a := by
    intro h1 h2 h3 h4
    rw [(z _ _ h2).2, (z _ _ h4).2, (z _ _ h1).2, (z _ _ h3).2]
    omega
  clear z
  have H1 := fun w' => adjust t m a w' ha
  have H2 := fun w' => adjust (adjT t m a) m b w' hb
  have H3 := fun w' => adjust t m b w' hb
  have H4 := fun w' => adjust (adjT t m b) m a w' ha
  have H5 := fun w' => free t m w'
  have H6 := fun w' => over t m 0 w' (by unfold Fits; omega)
  have H7 := fun w' => over t m m w' hp.2
  rw [hov2] at H7
  generalize adjE t m a = e1 at *
  generalize adjE (adjT t m a) m b = e2 at *
  generalize adjE t m b = e3 at *
  generalize adjE (adjT t m b) m a = e4 at *
  generalize adjT (adjT t m a) m b = x2 at *
  generalize adjT (adjT t m b) m a = x4 at *
  generalize adjT t m a = x1 at *
  generalize adjT t m b = x3 at *
  have H8 := fun w' => rmay t m w'
  have hm' := (may_iff t m)
  generalize freeV t m = v1 at *
  generalize overV t m 0 = v2 at *
  generalize mayB t m = mb at *
  have hb := hp
  unfold Fits at hb
  cases mb with
  | false =>
    refine calls_of_exec env_ok Try.func5 rfl [(8, (line [0, 1, 2, 3, 4, 6, 7, 9, 10, 5, 8, 11, 12, 13, 15, 16, 14, 17, 18, 19, 20, 21, 22, 23, 24, 25, 26, 27, 28, 29, 30], []))] (by kernel_rfl) [] (by simp) ?_
    (conv => arg 5; whnf)
    refine meetc rfl (by kernel_rfl) (fun β ρ w' hM => H1 w') ?_
    (conv => arg 5; whnf)
    refine meetc rfl (by kernel_rfl) (fun β ρ w' hM => H2 w') ?_
    (conv => arg 5; whnf)
    refine meetc rfl (by kernel_rfl) (fun β ρ w' hM => H3 w') ?_
    (conv => arg 5; whnf)
    refine meetc rfl (by kernel_rfl) (fun β ρ w' hM => H4 w') ?_
    (conv => arg 5; whnf)
    refine wp_br (fun h1 => ?_) (fun h1 => ?_)
    · (conv => arg 5; whnf)
      refine wp_br (fun h2 => ?_) (fun h2 => ?_)
      · (conv => arg 5; whnf)
        refine wp_br (fun h3 => ?_) (fun h3 => ?_)
        · (conv => arg 5; whnf)
          refine wp_br (fun h4 => ?_) (fun h4 => ?_)
          · (conv => arg 5; whnf)
            refine wp_prim _ (fun w => neq_own _ _ _ _ _ _ w) ?_
            (conv => arg 5; whnf)
            refine wp_br (fun h => ?_) (fun h => ?_)
            · exact absurd h (by simp at h1 h2 h3 h4; simp [key h1 h2 h3 h4])
            · (conv => arg 5; whnf)
              refine meetc (f := 20) rfl (by kernel_rfl) (fun β ρ w' hM => H8 w') ?_
              (conv => arg 5; whnf)
              refine meetc (f := 17) rfl (by kernel_rfl) (fun β ρ w' hM => H7 w') ?_
              (conv => arg 5; whnf)
              refine meetc (f := 19) rfl (by kernel_rfl) (fun β ρ w' hM => live w') ?_
              (conv => arg 5; whnf)
              exact wp_back fun β ρ w' hM => ⟨rfl, hM.below⟩
          · (conv => arg 5; whnf)
            refine meetc (f := 20) rfl (by kernel_rfl) (fun β ρ w' hM => H8 w') ?_
            (conv => arg 5; whnf)
            refine meetc (f := 17) rfl (by kernel_rfl) (fun β ρ w' hM => H7 w') ?_
            (conv => arg 5; whnf)
            refine meetc (f := 19) rfl (by kernel_rfl) (fun β ρ w' hM => live w') ?_
            (conv => arg 5; whnf)
            exact wp_back fun β ρ w' hM => ⟨rfl, hM.below⟩
        · (conv => arg 5; whnf)
          refine meetc (f := 20) rfl (by kernel_rfl) (fun β ρ w' hM => H8 w') ?_
          (conv => arg 5; whnf)
          refine meetc (f := 17) rfl (by kernel_rfl) (fun β ρ w' hM => H7 w') ?_
          (conv => arg 5; whnf)
          refine meetc (f := 19) rfl (by kernel_rfl) (fun β ρ w' hM => live w') ?_
          (conv => arg 5; whnf)
          exact wp_back fun β ρ w' hM => ⟨rfl, hM.below⟩
      · (conv => arg 5; whnf)
        refine meetc (f := 20) rfl (by kernel_rfl) (fun β ρ w' hM => H8 w') ?_
        (conv => arg 5; whnf)
        refine meetc (f := 17) rfl (by kernel_rfl) (fun β ρ w' hM => H7 w') ?_
        (conv => arg 5; whnf)
        refine meetc (f := 19) rfl (by kernel_rfl) (fun β ρ w' hM => live w') ?_
        (conv => arg 5; whnf)
        exact wp_back fun β ρ w' hM => ⟨rfl, hM.below⟩
    · (conv => arg 5; whnf)
      refine meetc (f := 20) rfl (by kernel_rfl) (fun β ρ w' hM => H8 w') ?_
      (conv => arg 5; whnf)
      refine meetc (f := 17) rfl (by kernel_rfl) (fun β ρ w' hM => H7 w') ?_
      (conv => arg 5; whnf)
      refine meetc (f := 19) rfl (by kernel_rfl) (fun β ρ w' hM => live w') ?_
      (conv => arg 5; whnf)
      exact wp_back fun β ρ w' hM => ⟨rfl, hM.below⟩
  | true =>
    have hq := hm'.1 rfl
    have q1 := hfree rfl
    have q2 := hov rfl
    subst q1 q2
    clear hfree hov hm'
    refine calls_of_exec env_ok Try.func5 rfl [(8, (line [0, 1, 2, 3, 4, 6, 7, 9, 10, 5, 8, 11, 12, 13, 15, 16, 14, 17, 18, 19, 20, 21, 22, 23, 24, 25, 26, 27, 28, 29, 30], []))] (by kernel_rfl) [] (by simp) ?_
    (conv => arg 5; whnf)
    refine meetc rfl (by kernel_rfl) (fun β ρ w' hM => H1 w') ?_
    (conv => arg 5; whnf)
    refine meetc rfl (by kernel_rfl) (fun β ρ w' hM => H2 w') ?_
    (conv => arg 5; whnf)
    refine meetc rfl (by kernel_rfl) (fun β ρ w' hM => H3 w') ?_
    (conv => arg 5; whnf)
    refine meetc rfl (by kernel_rfl) (fun β ρ w' hM => H4 w') ?_
    (conv => arg 5; whnf)
    refine wp_br (fun h1 => ?_) (fun h1 => ?_)
    · (conv => arg 5; whnf)
      refine wp_br (fun h2 => ?_) (fun h2 => ?_)
      · (conv => arg 5; whnf)
        refine wp_br (fun h3 => ?_) (fun h3 => ?_)
        · (conv => arg 5; whnf)
          refine wp_br (fun h4 => ?_) (fun h4 => ?_)
          · (conv => arg 5; whnf)
            refine wp_prim _ (fun w => neq_own _ _ _ _ _ _ w) ?_
            (conv => arg 5; whnf)
            refine wp_br (fun h => ?_) (fun h => ?_)
            · exact absurd h (by simp at h1 h2 h3 h4; simp [key h1 h2 h3 h4])
            · (conv => arg 5; whnf)
              refine meetc (f := 20) rfl (by kernel_rfl) (fun β ρ w' hM => H8 w') ?_
              (conv => arg 5; whnf)
              refine meetc (f := 15) rfl (by kernel_rfl) (fun β ρ w' hM => H5 w') ?_
              (conv => arg 5; whnf)
              refine wp_must (by omega) ?_
              (conv => arg 5; whnf)
              refine wp_br (fun h => ?_) (fun h => absurd h (by simp))
              (conv => arg 5; whnf)
              refine meetc (f := 17) rfl (by kernel_rfl) (fun β ρ w' hM => H6 w') ?_
              (conv => arg 5; whnf)
              refine wp_br (fun h => ?_) (fun h => absurd h (by simp))
              (conv => arg 5; whnf)
              refine meetc (f := 17) rfl (by kernel_rfl) (fun β ρ w' hM => H7 w') ?_
              (conv => arg 5; whnf)
              refine meetc (f := 19) rfl (by kernel_rfl) (fun β ρ w' hM => live w') ?_
              (conv => arg 5; whnf)
              exact wp_back fun β ρ w' hM => ⟨rfl, hM.below⟩
          · (conv => arg 5; whnf)
            refine meetc (f := 20) rfl (by kernel_rfl) (fun β ρ w' hM => H8 w') ?_
            (conv => arg 5; whnf)
            refine meetc (f := 15) rfl (by kernel_rfl) (fun β ρ w' hM => H5 w') ?_
            (conv => arg 5; whnf)
            refine wp_must (by omega) ?_
            (conv => arg 5; whnf)
            refine wp_br (fun h => ?_) (fun h => absurd h (by simp))
            (conv => arg 5; whnf)
            refine meetc (f := 17) rfl (by kernel_rfl) (fun β ρ w' hM => H6 w') ?_
            (conv => arg 5; whnf)
            refine wp_br (fun h => ?_) (fun h => absurd h (by simp))
            (conv => arg 5; whnf)
            refine meetc (f := 17) rfl (by kernel_rfl) (fun β ρ w' hM => H7 w') ?_
            (conv => arg 5; whnf)
            refine meetc (f := 19) rfl (by kernel_rfl) (fun β ρ w' hM => live w') ?_
            (conv => arg 5; whnf)
            exact wp_back fun β ρ w' hM => ⟨rfl, hM.below⟩
        · (conv => arg 5; whnf)
          refine meetc (f := 20) rfl (by kernel_rfl) (fun β ρ w' hM => H8 w') ?_
          (conv => arg 5; whnf)
          refine meetc (f := 15) rfl (by kernel_rfl) (fun β ρ w' hM => H5 w') ?_
          (conv => arg 5; whnf)
          refine wp_must (by omega) ?_
          (conv => arg 5; whnf)
          refine wp_br (fun h => ?_) (fun h => absurd h (by simp))
          (conv => arg 5; whnf)
          refine meetc (f := 17) rfl (by kernel_rfl) (fun β ρ w' hM => H6 w') ?_
          (conv => arg 5; whnf)
          refine wp_br (fun h => ?_) (fun h => absurd h (by simp))
          (conv => arg 5; whnf)
          refine meetc (f := 17) rfl (by kernel_rfl) (fun β ρ w' hM => H7 w') ?_
          (conv => arg 5; whnf)
          refine meetc (f := 19) rfl (by kernel_rfl) (fun β ρ w' hM => live w') ?_
          (conv => arg 5; whnf)
          exact wp_back fun β ρ w' hM => ⟨rfl, hM.below⟩
      · (conv => arg 5; whnf)
        refine meetc (f := 20) rfl (by kernel_rfl) (fun β ρ w' hM => H8 w') ?_
        (conv => arg 5; whnf)
        refine meetc (f := 15) rfl (by kernel_rfl) (fun β ρ w' hM => H5 w') ?_
        (conv => arg 5; whnf)
        refine wp_must (by omega) ?_
        (conv => arg 5; whnf)
        refine wp_br (fun h => ?_) (fun h => absurd h (by simp))
        (conv => arg 5; whnf)
        refine meetc (f := 17) rfl (by kernel_rfl) (fun β ρ w' hM => H6 w') ?_
        (conv => arg 5; whnf)
        refine wp_br (fun h => ?_) (fun h => absurd h (by simp))
        (conv => arg 5; whnf)
        refine meetc (f := 17) rfl (by kernel_rfl) (fun β ρ w' hM => H7 w') ?_
        (conv => arg 5; whnf)
        refine meetc (f := 19) rfl (by kernel_rfl) (fun β ρ w' hM => live w') ?_
        (conv => arg 5; whnf)
        exact wp_back fun β ρ w' hM => ⟨rfl, hM.below⟩
    · (conv => arg 5; whnf)
      refine meetc (f := 20) rfl (by kernel_rfl) (fun β ρ w' hM => H8 w') ?_
      (conv => arg 5; whnf)
      refine meetc (f := 15) rfl (by kernel_rfl) (fun β ρ w' hM => H5 w') ?_
      (conv => arg 5; whnf)
      refine wp_must (by omega) ?_
      (conv => arg 5; whnf)
      refine wp_br (fun h => ?_) (fun h => absurd h (by simp))
      (conv => arg 5; whnf)
      refine meetc (f := 17) rfl (by kernel_rfl) (fun β ρ w' hM => H6 w') ?_
      (conv => arg 5; whnf)
      refine wp_br (fun h => ?_) (fun h => absurd h (by simp))
      (conv => arg 5; whnf)
      refine meetc (f := 17) rfl (by kernel_rfl) (fun β ρ w' hM => H7 w') ?_
      (conv => arg 5; whnf)
      refine meetc (f := 19) rfl (by kernel_rfl) (fun β ρ w' hM => live w') ?_
      (conv => arg 5; whnf)
      exact wp_back fun β ρ w' hM => ⟨rfl, hM.below⟩
end Go.Proofs.Ytbgagcjcpegpaaa.potOrder
