/- Layer 7 (pot), by contract: the program's, and the document's. -/
import Derived.Test.YtbgagcjcpegpaaaMeet
import Derived.Test.YtbgagcjcpegpaaaShape
import Derived.Test.YtbgagcjcpegpaaaPotFlt
import Derived.Laws.FloatArith
import Derived.WalkLawsBesides
namespace Go.Proofs.Ytbgagcjcpegpaaa.pot
open Go.RowKit Sx flt
set_option linter.unusedVariables false
set_option linter.unusedSimpArgs false

def mayB (t m : Int) : Bool := decide (1 ≤ m ∧ m ≤ 1000 ∧ 0 ≤ t ∧ t ≤ m)
theorem may_iff (t m : Int) : mayB t m = true ↔ 1 ≤ m ∧ m ≤ 1000 ∧ 0 ≤ t ∧ t ≤ m := by simp [mayB]
def adjT (t m d : Int) : Int := if mayB t m = true ∧ -t ≤ d ∧ d ≤ m - t then t + d else t
def adjE (t m d : Int) : Int := if ¬ (mayB t m = true ∧ -t ≤ d) then 1 else if d ≤ m - t then 0 else 6
def newM (n : Int) : Int := if 1 ≤ n ∧ n ≤ 1000 then n else 0
def newE (n : Int) : Int := if 1 ≤ n ∧ n ≤ 1000 then 0 else 1
def freeV (t m : Int) : Int := if mayB t m then m - t else 0
def overV (t m s : Int) : Int := if mayB t m = true ∧ 0 ≤ s ∧ s < t then t - s else 0

def two (a b : Int) : Value := .agg #[.int .i64 a, .int .i64 b]

theorem within (a b : Int) (w : World) : Calls Try.prog 42 (List.toArray [.int .i64 a, .int .i64 b]) w fun e w' => e = .returned (.bool (decide (0 ≤ a ∧ a ≤ b))) ∧ Below w.heap.size w w' := by
  refine calls_of_exec env_ok Try.func42 rfl [] (by kernel_rfl) [] (by simp) ?_
  repeat' (first
    | (refine wp_g1 (fun h => ?_) (fun h => ?_))
    | exact wp_back fun β ρ w' hM => ⟨retB (by rw [Bool.eq_iff_iff]; simp at *; omega), hM.below⟩)

theorem add (a b c : Int) (w : World) (hc : 0 ≤ c) (hc' : c ≤ 1000) : Calls Try.prog 35 (List.toArray [.int .i64 a, .int .i64 b, .int .i64 c]) w fun e w' => e = .returned (.tuple #[.int .i64 (if 0 ≤ a ∧ a ≤ c ∧ 0 ≤ b ∧ b ≤ c - a then a + b else 0), .bool (decide (0 ≤ a ∧ a ≤ c ∧ 0 ≤ b ∧ b ≤ c - a))]) ∧ Below w.heap.size w w' := by
  refine calls_of_exec env_ok Try.func35 rfl [] (by kernel_rfl) [] (by simp) ?_
  refine meetc rfl (by kernel_rfl) (fun β ρ w' hM => within a c w') ?_
  refine wp_g0 (fun h1 => ?_) (fun h1 => ?_)
  · simp at h1
    refine wp_must (by omega) ?_
    refine meetc rfl (by kernel_rfl) (fun β ρ w' hM => within b (c - a) w') ?_
    refine wp_br (fun h2 => ?_) (fun h2 => ?_)
    · simp at h2
      exact wp_back fun β ρ w' hM => ⟨by rw [decide_eq_false (by omega), if_neg (by omega)]; rfl, hM.below⟩
    · simp at h2
      refine wp_must (by omega) ?_
      exact wp_back fun β ρ w' hM => ⟨by rw [decide_eq_true (by omega), if_pos (by omega)]; rfl, hM.below⟩
  · simp at h1
    exact wp_back fun β ρ w' hM => ⟨by rw [decide_eq_false (by omega), if_neg (by omega)]; rfl, hM.below⟩

set_option maxRecDepth 100000 in
theorem may (t m : Int) (w : World) : Calls Try.prog 34 (List.toArray [two t m]) w fun e w' => e = .returned (.bool (mayB t m)) ∧ Below w.heap.size w w' := by
  refine calls_of_exec env_ok Try.func34 rfl [] (by kernel_rfl) [] (by simp) ?_
  repeat' (first
    | (refine wp_g1 (fun h => ?_) (fun h => ?_))
    | exact wp_back fun β ρ w' hM => ⟨retB (by rw [Bool.eq_iff_iff]; simp [mayB] at *; omega), hM.below⟩)
set_option maxRecDepth 100000 in
theorem rmay (t m : Int) (w : World) : Calls Try.prog 20 (List.toArray [two t m]) w fun e w' => e = .returned (.bool (mayB t m)) ∧ Below w.heap.size w w' := by
  refine calls_of_exec env_ok Try.func20 rfl [] (by kernel_rfl) [] (by simp) ?_
  repeat' (first
    | (refine wp_g1 (fun h => ?_) (fun h => ?_))
    | exact wp_back fun β ρ w' hM => ⟨retB (by rw [Bool.eq_iff_iff]; simp [mayB] at *; omega), hM.below⟩)
/-- What a pot is as the parts of one number. -/
def cx (a b : Nat) : Value := .complex .f64 (fw a) (fw b)
set_option maxRecDepth 100000 in
theorem parts (t m : Int) (w : World) (h : mayB t m = true) : Calls Try.prog 37 (List.toArray [two t m]) w fun e w' => e = .returned (cx t.toNat (m - t).toNat) ∧ Below w.heap.size w w' := by
  rw [may_iff] at h
  refine calls_of_exec env_ok Try.func37 rfl [] (by kernel_rfl) [] (by simp) ?_
  refine wp_prim (.float .f64 (floatOfInt .f64 t)) (fun w => by kernel_rfl) ?_
  refine wp_must (by omega) ?_
  refine wp_prim (.float .f64 (floatOfInt .f64 (m - t))) (fun w => by kernel_rfl) ?_
  refine wp_prim (cx t.toNat (m - t).toNat) (fun w => by rw [ofInt_fw _ (by omega), ofInt_fw _ (by omega)]; rfl) ?_
  exact wp_back fun β ρ w' hM => ⟨rfl, hM.below⟩
theorem back (n : Nat) (w : World) (h : n ≤ 1000) : (do pure (Next.value (← convert 74 3 (.float .f64 (fw n)))) : Sem Next).run Try.prog w = .ok (.value (.int .i64 n)) w := by
  have hu : (Try.prog.underlying 74).isSome = true := by kernel_rfl
  exact run_val (run_convert_float_int (P := Try.prog) w 74 3 .f64 .i64 (fw n) n hu Try.underlying3 (back_fw n (by omega))) Next.value
set_option maxRecDepth 100000 in
theorem of_ (a b : Nat) (w : World) (h : a + b ≤ 1000) : Calls Try.prog 36 (List.toArray [cx a b]) w fun e w' => e = .returned (two a (a + b)) ∧ Below w.heap.size w w' := by
  refine calls_of_exec env_ok Try.func36 rfl [] (by kernel_rfl) [] (by simp) ?_
  refine wp_prim (.float .f64 (fw a)) (fun w => by rfl) ?_
  refine wp_prim (.int .i64 a) (fun w => back a w (by omega)) ?_
  refine wp_prim (.float .f64 (fw b)) (fun w => by rfl) ?_
  refine wp_prim (.int .i64 b) (fun w => back b w (by omega)) ?_
  refine wp_must (by omega) ?_
  exact wp_back fun β ρ w' hM => ⟨rfl, hM.below⟩
set_option maxRecDepth 100000 in
theorem adjust (t m d : Int) (w : World) (hd : Fits d) : Calls Try.prog 11 (List.toArray [two t m, .int .i64 d]) w fun e w' => e = .returned (.tuple #[two (adjT t m d) m, .int .i64 (adjE t m d)]) ∧ Below w.heap.size w w' := by
  unfold Fits at hd
  have no : ¬ (mayB t m = true ∧ -t ≤ d) → adjT t m d = t ∧ adjE t m d = 1 := fun h => ⟨if_neg (fun h' => h ⟨h'.1, h'.2.1⟩), if_pos h⟩
  refine calls_of_exec env_ok Try.func11 rfl [] (by kernel_rfl) [] (by simp) ?_
  refine meetc rfl (by kernel_rfl) (fun β ρ w' hM => may t m w') ?_
  cases hm : mayB t m with
  | false =>
    obtain ⟨e1, e2⟩ := no (by simp [hm])
    exact wp_back fun β ρ w' hM => ⟨by rw [e1, e2]; rfl, hM.below⟩
  | true =>
    have hm' := (may_iff t m).1 hm
    refine wp_must (by omega) ?_
    refine wp_br (fun h => ?_) (fun h => ?_)
    · obtain ⟨e1, e2⟩ := no (by simp at h; omega)
      exact wp_back fun β ρ w' hM => ⟨by rw [e1, e2]; rfl, hM.below⟩
    · simp at h
      refine wp_prim (.int .i64 (max d 0)) (fun w => by simp [Builtin.max_, Builtin.max2, Sem.run_bind]; split <;> omega) ?_
      refine meetc rfl (by kernel_rfl) (fun β ρ w' hM => add t (max d 0) m w' (by omega) (by omega)) ?_
      refine wp_br (fun h2 => ?_) (fun h2 => ?_)
      · simp at h2
        exact wp_back fun β ρ w' hM => ⟨by
          rw [show adjT t m d = t from if_neg (by omega), show adjE t m d = 6 from by unfold adjE; rw [if_neg (by simp [hm]; omega), if_neg (by omega)]]; rfl, hM.below⟩
      · simp at h2
        refine meetc rfl (by kernel_rfl) (fun β ρ w' hM => parts t m w' hm) ?_
        refine wp_prim (.float .f64 (floatOfInt .f64 d)) (fun w => by kernel_rfl) ?_
        refine wp_prim (.float .f64 (floatOfInt .f64 d)) (fun w => by kernel_rfl) ?_
        refine wp_prim (.float .f64 (Op.negFloat .f64 (floatOfInt .f64 d))) (fun w => by rfl) ?_
        refine wp_prim (.complex .f64 (floatOfInt .f64 d) (Op.negFloat .f64 (floatOfInt .f64 d))) (fun w => by rfl) ?_
        refine wp_prim (cx (t + d).toNat (m - (t + d)).toNat) (fun w => by
          have := sum_sw t (m - t) d d (t + d).toNat (m - (t + d)).toNat (by omega) (by omega) (by omega) (by omega) (by omega) (by omega) (by omega) (by omega) Try.prog w 72
          exact run_val this Next.value) ?_
        refine meetc rfl (by kernel_rfl) (fun β ρ w' hM => of_ (t + d).toNat (m - (t + d)).toNat w' (by omega)) ?_
        exact wp_back fun β ρ w' hM => ⟨by
          rw [show adjT t m d = t + d from if_pos ⟨hm, by omega, by omega⟩, show adjE t m d = 0 from by unfold adjE; rw [if_neg (by simp [hm]; omega), if_pos (by omega)],
            show (((t + d).toNat : Nat) : Int) = t + d from by omega, show t + d + (((m - (t + d)).toNat : Nat) : Int) = m from by omega]; rfl, hM.below⟩
set_option maxRecDepth 100000 in
theorem new_ (n : Int) (w : World) : Calls Try.prog 13 (List.toArray [.int .i64 n]) w fun e w' => e = .returned (.tuple #[two 0 (newM n), .int .i64 (newE n)]) ∧ Below w.heap.size w w' := by
  refine calls_of_exec env_ok Try.func13 rfl [] (by kernel_rfl) [] (by simp) ?_
  refine meetc rfl (by kernel_rfl) (fun β ρ w' hM => may 0 n w') ?_
  refine wp_br (fun h => ?_) (fun h => ?_)
  · have h' : ¬ (1 ≤ n ∧ n ≤ 1000) := by simp [mayB] at h; omega
    exact wp_back fun β ρ w' hM => ⟨by unfold newM newE; rw [if_neg h', if_neg h']; rfl, hM.below⟩
  · have h' : 1 ≤ n ∧ n ≤ 1000 := by simp [mayB] at h; omega
    exact wp_back fun β ρ w' hM => ⟨by unfold newM newE; rw [if_pos h', if_pos h']; rfl, hM.below⟩
set_option maxRecDepth 100000 in
theorem rnew (n : Int) (w : World) : Calls Try.prog 14 (List.toArray [.int .i64 n]) w fun e w' => e = .returned (.tuple #[two 0 (newM n), .int .i64 (newE n)]) ∧ Below w.heap.size w w' := by
  refine calls_of_exec env_ok Try.func14 rfl [] (by kernel_rfl) [] (by simp) ?_
  have no : ¬ (1 ≤ n ∧ n ≤ 1000) → Ending.returned (.tuple #[two 0 0, .int .i64 1]) = .returned (.tuple #[two 0 (newM n), .int .i64 (newE n)]) := fun h' => by unfold newM newE; rw [if_neg h', if_neg h']
  refine wp_g0 (fun h => ?_) (fun h => ?_)
  · refine wp_br (fun h2 => ?_) (fun h2 => ?_)
    · exact wp_back fun β ρ w' hM => ⟨no (by simp at h h2; omega), hM.below⟩
    · have h' : 1 ≤ n ∧ n ≤ 1000 := by simp at h h2; omega
      exact wp_back fun β ρ w' hM => ⟨by unfold newM newE; rw [if_pos h', if_pos h']; rfl, hM.below⟩
  · exact wp_back fun β ρ w' hM => ⟨no (by simp at h; omega), hM.below⟩
set_option maxRecDepth 100000 in
theorem radjust (t m d : Int) (w : World) (hd : Fits d) : Calls Try.prog 12 (List.toArray [two t m, .int .i64 d]) w fun e w' => e = .returned (.tuple #[two (adjT t m d) m, .int .i64 (adjE t m d)]) ∧ Below w.heap.size w w' := by
  unfold Fits at hd
  have no : ¬ (mayB t m = true ∧ -t ≤ d) → adjT t m d = t ∧ adjE t m d = 1 := fun h => ⟨if_neg (fun h' => h ⟨h'.1, h'.2.1⟩), if_pos h⟩
  refine calls_of_exec env_ok Try.func12 rfl [] (by kernel_rfl) [] (by simp) ?_
  refine meetc rfl (by kernel_rfl) (fun β ρ w' hM => rmay t m w') ?_
  cases hm : mayB t m with
  | false =>
    obtain ⟨e1, e2⟩ := no (by simp [hm])
    exact wp_back fun β ρ w' hM => ⟨by rw [e1, e2]; rfl, hM.below⟩
  | true =>
    have hm' := (may_iff t m).1 hm
    refine wp_must (by omega) ?_
    refine wp_br (fun h => ?_) (fun h => ?_)
    · obtain ⟨e1, e2⟩ := no (by simp at h; omega)
      exact wp_back fun β ρ w' hM => ⟨by rw [e1, e2]; rfl, hM.below⟩
    · simp at h
      refine wp_must (by omega) ?_
      refine wp_br (fun h2 => ?_) (fun h2 => ?_)
      · simp at h2
        exact wp_back fun β ρ w' hM => ⟨by
          rw [show adjT t m d = t from if_neg (by omega), show adjE t m d = 6 from by unfold adjE; rw [if_neg (by simp [hm]; omega), if_neg (by omega)]]; rfl, hM.below⟩
      · simp at h2
        refine wp_must (by omega) ?_
        exact wp_back fun β ρ w' hM => ⟨by
          rw [show adjT t m d = t + d from if_pos ⟨hm, by omega, by omega⟩, show adjE t m d = 0 from by unfold adjE; rw [if_neg (by simp [hm]; omega), if_pos (by omega)]]; rfl, hM.below⟩
set_option maxRecDepth 100000 in
theorem free (t m : Int) (w : World) : Calls Try.prog 15 (List.toArray [two t m]) w fun e w' => e = .returned (.int .i64 (freeV t m)) ∧ Below w.heap.size w w' := by
  refine calls_of_exec env_ok Try.func15 rfl [] (by kernel_rfl) [] (by simp) ?_
  refine meetc rfl (by kernel_rfl) (fun β ρ w' hM => may t m w') ?_
  cases hm : mayB t m with
  | false => exact wp_back fun β ρ w' hM => ⟨by unfold freeV; rw [hm]; rfl, hM.below⟩
  | true =>
    have hm' := (may_iff t m).1 hm
    refine meetc rfl (by kernel_rfl) (fun β ρ w' hM => parts t m w' hm) ?_
    refine wp_prim (.float .f64 (fw (m - t).toNat)) (fun w => by rfl) ?_
    refine wp_prim (.int .i64 (m - t).toNat) (fun w => back _ w (by omega)) ?_
    exact wp_back fun β ρ w' hM => ⟨retI (by unfold freeV; rw [hm, if_pos rfl]; omega), hM.below⟩
set_option maxRecDepth 100000 in
theorem rfree (t m : Int) (w : World) : Calls Try.prog 16 (List.toArray [two t m]) w fun e w' => e = .returned (.int .i64 (freeV t m)) ∧ Below w.heap.size w w' := by
  refine calls_of_exec env_ok Try.func16 rfl [] (by kernel_rfl) [] (by simp) ?_
  refine meetc rfl (by kernel_rfl) (fun β ρ w' hM => rmay t m w') ?_
  cases hm : mayB t m with
  | false => exact wp_back fun β ρ w' hM => ⟨by unfold freeV; rw [hm]; rfl, hM.below⟩
  | true =>
    have hm' := (may_iff t m).1 hm
    refine wp_must (by omega) ?_
    exact wp_back fun β ρ w' hM => ⟨retI (by unfold freeV; rw [hm, if_pos rfl]), hM.below⟩
set_option maxRecDepth 100000 in
theorem over (t m s : Int) (w : World) (hs : Fits s) : Calls Try.prog 17 (List.toArray [two t m, .int .i64 s]) w fun e w' => e = .returned (.int .i64 (overV t m s)) ∧ Below w.heap.size w w' := by
  unfold Fits at hs
  refine calls_of_exec env_ok Try.func17 rfl [] (by kernel_rfl) [] (by simp) ?_
  refine meetc rfl (by kernel_rfl) (fun β ρ w' hM => may t m w') ?_
  cases hm : mayB t m with
  | false => exact wp_back fun β ρ w' hM => ⟨by unfold overV; rw [if_neg (by simp [hm])]; rfl, hM.below⟩
  | true =>
    have hm' := (may_iff t m).1 hm
    refine wp_br (fun h => ?_) (fun h => ?_)
    · simp at h
      exact wp_back fun β ρ w' hM => ⟨by unfold overV; rw [if_neg (by omega)]; rfl, hM.below⟩
    · simp at h
      refine meetc rfl (by kernel_rfl) (fun β ρ w' hM => parts t m w' hm) ?_
      refine wp_prim (.float .f64 (fw t.toNat)) (fun w => by rfl) ?_
      refine wp_prim (.int .i64 t.toNat) (fun w => back _ w (by omega)) ?_
      refine wp_must (by omega) ?_
      refine wp_prim (.int .i64 (max 0 (t - s))) (fun w => by simp [Builtin.max_, Builtin.max2, Sem.run_bind]; split <;> omega) ?_
      exact wp_back fun β ρ w' hM => ⟨retI (by unfold overV; by_cases q : s < t <;> simp [hm, h, q] <;> omega), hM.below⟩
set_option maxRecDepth 100000 in
theorem rover (t m s : Int) (w : World) (hs : Fits s) : Calls Try.prog 18 (List.toArray [two t m, .int .i64 s]) w fun e w' => e = .returned (.int .i64 (overV t m s)) ∧ Below w.heap.size w w' := by
  unfold Fits at hs
  refine calls_of_exec env_ok Try.func18 rfl [] (by kernel_rfl) [] (by simp) ?_
  refine meetc rfl (by kernel_rfl) (fun β ρ w' hM => rmay t m w') ?_
  cases hm : mayB t m with
  | false => exact wp_back fun β ρ w' hM => ⟨by unfold overV; rw [if_neg (by simp [hm])]; rfl, hM.below⟩
  | true =>
    have hm' := (may_iff t m).1 hm
    refine wp_g0 (fun h => ?_) (fun h => ?_)
    · simp at h
      refine wp_br (fun h2 => ?_) (fun h2 => ?_)
      · simp at h2
        exact wp_back fun β ρ w' hM => ⟨by unfold overV; rw [if_neg (by omega)]; rfl, hM.below⟩
      · simp at h2
        refine wp_must (by omega) ?_
        exact wp_back fun β ρ w' hM => ⟨by unfold overV; rw [if_pos ⟨hm, by omega, by omega⟩]; rfl, hM.below⟩
    · simp at h
      exact wp_back fun β ρ w' hM => ⟨by unfold overV; rw [if_neg (by omega)]; rfl, hM.below⟩
end Go.Proofs.Ytbgagcjcpegpaaa.pot
