/- Layer 14 (feed), by contract: Covers; the document covers, tells, compares. -/
import Derived.Test.YtlfiaebnknhmbaaFeedB
namespace Go.Proofs.Ytlfiaebnknhmbaa.feed
open Go.RowKit Sx
set_option linter.unusedVariables false
set_option linter.unusedSimpArgs false
def evB (t u : Ev) : Bool := decide (t.k = u.k) && (decide (t.s = u.s) && (decide (t.n = u.n) && (decide (t.t = u.t) && (decide (t.c = u.c) && (decide (t.g = u.g) && (decide (t.d.toList = u.d.toList) && decide (t.m = u.m)))))))
theorem evB_refl (t : Ev) : evB t t = true := by simp [evB]
theorem evB_comm (t u : Ev) : evB t u = evB u t := by
  unfold evB
  simp only [eq_comm]
theorem neq_any (x y : Operand) (t u : Ev) (w : World) : (do eqGuard .neq 36 x y t.val u.val; pure (Next.value (← binOp .neq 36 t.val u.val)) : Sem Next).run Try.prog w = .ok (.value (.bool (!evB t u))) w := by
  unfold evB
  by_cases h1 : ¬ t.k = u.k
  · simp [Ev.val, eqGuard, go_sem, h1]
  replace h1 := Decidable.not_not.1 h1
  by_cases h2 : ¬ t.s = u.s
  · simp [Ev.val, eqGuard, go_sem, h1, h2]
  replace h2 := Decidable.not_not.1 h2
  by_cases h3 : ¬ t.n = u.n
  · simp [Ev.val, eqGuard, go_sem, h1, h2, h3]
  replace h3 := Decidable.not_not.1 h3
  by_cases h4 : ¬ t.t = u.t
  · simp [Ev.val, eqGuard, go_sem, h1, h2, h3, h4]
  replace h4 := Decidable.not_not.1 h4
  by_cases h5 : ¬ t.c = u.c
  · simp [Ev.val, eqGuard, go_sem, h1, h2, h3, h4, h5]
  replace h5 := Decidable.not_not.1 h5
  by_cases h6 : ¬ t.g = u.g
  · simp [Ev.val, eqGuard, go_sem, h1, h2, h3, h4, h5, h6]
  replace h6 := Decidable.not_not.1 h6
  by_cases h7 : ¬ t.d.toList = u.d.toList
  · simp [Ev.val, eqGuard, go_sem, h1, h2, h3, h4, h5, h6, h7]
  replace h7 := Decidable.not_not.1 h7
  by_cases h8 : ¬ t.m = u.m
  · simp [Ev.val, eqGuard, go_sem, h1, h2, h3, h4, h5, h6, h7, h8]
  replace h8 := Decidable.not_not.1 h8
  simp [Ev.val, eqGuard, go_sem, h1, h2, h3, h4, h5, h6, h7, h8]
/-- How many of a row an event stands for. -/
def stV (x : Ev) (l : List Ev) : Nat := if x.k = 4 then (if x.m < 1 ∨ (l.length : Int) < x.m then 0 else x.m.toNat) else match l with | y :: _ => if evB x y = true then 1 else 0 | [] => 0
theorem stV_le (x : Ev) (l : List Ev) : stV x l ≤ l.length := by
  unfold stV
  split
  · split
    · omega
    · omega
  · cases l with
    | nil => simp
    | cons y l => simp only [List.length_cons]; split <;> omega
def coversV : List Ev → List Ev → Bool
  | [], l => decide (l.length = 0)
  | x :: t, l => if stV x l = 0 then false else coversV t (l.drop (stV x l))
theorem coversV_at {t : List Ev} {k : Nat} {x : Ev} {l : List Ev} (h : t[k]? = some x) : coversV (t.drop k) l = if stV x l = 0 then false else coversV (t.drop (k + 1)) (l.drop (stV x l)) := by
  obtain ⟨hk, hx⟩ := List.getElem?_eq_some_iff.1 h
  rw [List.drop_eq_getElem_cons hk, hx]
  rfl
set_option maxHeartbeats 4000000 in
set_option maxRecDepth 100000 in
theorem stands (x : Ev) (a : Option Addr) (n c : Nat) (l : List Ev) (w : World) (hs : Sl a n c) (hn : n = l.length) (hrow : At w (pt a n) (cellsE l)) (h63 : Fits x.m) : Calls Try.prog 26 (List.toArray [x.val, .slice a n c]) w fun e w' =>  e = .returned (.int .i64 (stV x l : Nat)) ∧ Below w.heap.size w w' := by
  have hn63 := hs.le
  refine calls_of_exec env_ok.keeps Try.func26 rfl [(5, (line [0, 1, 2, 3, 4, 5, 6, 7, 8, 9], []))] (schedQ_ok _ _ (by kernel_rfl)) [rowF (pt a n) (cellsE l)] (at1 hrow) ?_
  (conv => arg 5; whnf)
  refine wp_br (fun h1 => ?_) (fun h1 => ?_)
  · have h1 : x.k = 4 := by simpa using h1
    have e0 : stV x l = if x.m < 1 ∨ (l.length : Int) < x.m then 0 else x.m.toNat := by unfold stV; rw [if_pos h1]
    rw [e0]
    (conv => arg 5; whnf)
    refine wp_g0 (fun h2 => ?_) (fun h2 => ?_)
    · (conv => arg 5; whnf)
      refine wp_br (fun h3 => ?_) (fun h3 => ?_)
      · rw [if_pos (by simp at h2 h3; omega)]
        (conv => arg 5; whnf)
        exact wp_back fun β ρ w' hM' => ⟨rfl, hM'.below⟩
      · rw [if_neg (by simp at h2 h3; omega)]
        have e1 : ((x.m.toNat : Nat) : Int) = x.m := by simp at h2; omega
        rw [e1]
        (conv => arg 5; whnf)
        exact wp_back fun β ρ w' hM' => ⟨rfl, hM'.below⟩
    · rw [if_pos (by simp at h2; omega)]
      (conv => arg 5; whnf)
      exact wp_back fun β ρ w' hM' => ⟨rfl, hM'.below⟩
  · have h1 : ¬ x.k = 4 := by simpa using h1
    cases l with
    | nil =>
      obtain rfl : n = 0 := hn
      have e0 : stV x [] = 0 := by unfold stV; rw [if_neg h1]
      rw [e0]
      (conv => arg 5; whnf)
      exact wp_back fun β ρ w' hM' => ⟨rfl, hM'.below⟩
    | cons y l =>
      have hp : 0 < n := by rw [hn]; simp
      have e0 : stV x (y :: l) = if evB x y = true then 1 else 0 := by unfold stV; rw [if_neg h1]
      rw [e0]
      (conv => arg 5; whnf)
      refine wp_g0 (fun h2 => ?_) (fun h2 => absurd h2 (by simp; omega))
      (conv => arg 5; whnf)
      refine wp_must ⟨by omega, by omega, hs.some hp⟩ ?_
      (conv => arg 5; whnf)
      refine readE (l := y :: l) (k := 0) (x := y) rfl (.head _) hp (hs.some hp) rfl rfl ?_
      (conv => arg 5; whnf)
      refine wp_prim (.bool (!evB x y)) (fun w => neq_any _ _ x y w) ?_
      (conv => arg 5; whnf)
      refine wp_br (fun h3 => ?_) (fun h3 => ?_)
      · rw [if_neg (by simpa using h3)]
        (conv => arg 5; whnf)
        exact wp_back fun β ρ w' hM' => ⟨rfl, hM'.below⟩
      · rw [if_pos (by simpa using h3)]
        (conv => arg 5; whnf)
        exact wp_back fun β ρ w' hM' => ⟨rfl, hM'.below⟩
set_option maxHeartbeats 4000000 in
set_option maxRecDepth 100000 in
theorem covers (a : Option Addr) (n c : Nat) (l : List Ev) (b : Option Addr) (m d : Nat) (es : List Ev) (w : World) (hs : Sl a n c) (hn : n = l.length) (hrow : At w (pt a n) (cellsE l)) (hs2 : Sl b m d) (hm : m = es.length) (hrow2 : At w (pt b m) (cellsE es)) (hfit : ∀ x ∈ l, Fits x.m) : Calls Try.prog 21 (List.toArray [.slice a n c, .slice b m d]) w fun e w' =>  e = .returned (.bool (coversV l es)) ∧ Below w.heap.size w w' := by
  have hn63 := hs.le
  have hcv : coversV l es = coversV (l.drop 0) es := rfl
  refine calls_of_exec env_ok.keeps Try.func21 rfl [] (schedQ_ok _ _ (by kernel_rfl)) [rowF (pt a n) (cellsE l), rowF (pt b m) (cellsE es)] (at2 hrow hrow2) ?_
  have hLS := later_self hs2 hm
  subst hm
  (conv => arg 5; whnf)
  refine loop_rule env_ok.keeps [] (by kernel_rfl) (fun q : Nat × Option Addr × Nat × List Ev => q.1 ≤ n ∧ Later b es.length es q.2.1 q.2.2.1 q.2.2.2 ∧ coversV l es = coversV (l.drop q.1) q.2.2.2) (fun q => (⟨[], [], [rowF (pt a n) (cellsE l), rowF (pt b es.length) (cellsE es)]⟩, sl 26 [(0, .v (.slice a n c)), (1, .v (.slice q.2.1 q.2.2.2.length q.2.2.1)), (4, .v (.bool false)), (8, .v (.slice a n c)), (9, .v (.int .i64 (n : Nat))), (10, .v (.int .i64 (q.1 : Nat)))])) (fun q => n - q.1) (0, b, d, es) ⟨Nat.zero_le _, hLS, hcv⟩ ⟨by repeat' first | exact trivial | refine ⟨.inl rfl, ?_⟩ | refine ⟨.inr rfl, ?_⟩, ⟨by repeat' first | exact trivial | refine ⟨.inl rfl, ?_⟩ | refine ⟨.inr rfl, ?_⟩, by repeat' first | exact trivial | refine ⟨.inl rfl, ?_⟩ | refine ⟨.inr rfl, ?_⟩, fun _ h => h⟩, rfl⟩ ?_
  rintro ⟨k, b', d', es'⟩ ⟨hk, hL, hcv⟩
  simp only [] at hk hL hcv
  (conv => arg 5; whnf)
  refine wp_br (fun h1 => ?_) (fun h1 => ?_)
  · have hlt : k < n := by simp at h1; omega
    have hx := nx_get (l := l) (k := k) (by omega)
    rw [coversV_at hx] at hcv
    have hfx := hfit _ (List.mem_of_getElem? hx)
    generalize nx l k = x at *
    have hle := stV_le x es'
    have hST := fun w hr => stands x b' es'.length d' es' w hL.1 rfl hr hfx
    generalize stV x es' = j at *
    (conv => arg 5; whnf)
    refine wp_must ⟨by omega, by omega, hs.some hlt⟩ ?_
    (conv => arg 5; whnf)
    refine readE (l := l) (k := k) (x := x) rfl (.head _) hlt (hs.some hlt) hx rfl ?_
    (conv => arg 5; whnf)
    refine meetc (f := 26) (v := .int .i64 (j : Nat)) rfl (by kernel_rfl) (fun β ρ w' hM' => hST w' (hL.2 w' (hM'.at_ (.tail _ (.head _))))) ?_
    (conv => arg 5; whnf)
    refine wp_br (fun h2 => ?_) (fun h2 => ?_)
    · rw [if_pos (by simp at h2; omega)] at hcv
      rw [hcv]
      (conv => arg 5; whnf)
      exact wp_back fun β ρ w' hM' => ⟨rfl, hM'.below⟩
    · rw [if_neg (by simp at h2; omega)] at hcv
      have e1 : es'.length - j = (es'.drop j).length := by simp
      have hL2 : Later b es.length es (shift b' d' j) (d' - j) (es'.drop j) := by
        have q1 := sl_end hL.1 j hle
        rw [e1] at q1
        refine ⟨q1, fun w hw => ?_⟩
        have q2 := at_end (hL.2 w hw) j hle hL.1.1
        rwa [e1] at q2
      (conv => arg 5; whnf)
      refine wp_prim (.slice (shift b' d' j) (es'.length - j) (d' - j)) (fun w => slice_from b' es'.length d' j w hle hL.1.1) ?_
      (conv => arg 5; whnf)
      refine wp_must ⟨by omega, by omega⟩ ?_
      (conv => arg 5; whnf)
      rw [e1]; refine wp_end ⟨(k + 1, shift b' d' j, d' - j, es'.drop j), ⟨hlt, hL2, hcv⟩, ⟨by repeat' first | exact trivial | refine ⟨.inl rfl, ?_⟩ | refine ⟨.inr rfl, ?_⟩, ⟨by repeat' first | exact trivial | refine ⟨.inl rfl, ?_⟩ | refine ⟨.inr rfl, ?_⟩, by repeat' first | exact trivial | refine ⟨.inl rfl, ?_⟩ | refine ⟨.inr rfl, ?_⟩, fun _ h => h⟩, rfl⟩, by show n - (k + 1) < n - k; omega⟩
  · rw [List.drop_eq_nil_of_le (by simp at h1; omega)] at hcv
    have hln := hL.1.le
    have e1 : coversV l es = decide ((es'.length : Int) = 0) := by rw [hcv]; unfold coversV; simp
    rw [e1]
    (conv => arg 5; whnf)
    exact wp_back fun β ρ w' hM' => ⟨by first | rfl | (cases es' <;> rfl), hM'.below⟩
set_option maxHeartbeats 4000000 in
set_option maxRecDepth 100000 in
theorem rcovers (a : Option Addr) (n c : Nat) (l : List Ev) (b : Option Addr) (m d : Nat) (es : List Ev) (w : World) (hs : Sl a n c) (hn : n = l.length) (hrow : At w (pt a n) (cellsE l)) (hs2 : Sl b m d) (hm : m = es.length) (hrow2 : At w (pt b m) (cellsE es)) (hfit : ∀ x ∈ l, Fits x.m) : Calls Try.prog 22 (List.toArray [.slice a n c, .slice b m d]) w fun e w' =>  e = .returned (.bool (coversV l es)) ∧ Below w.heap.size w w' := by
  have hn63 := hs.le
  have hm63 := hs2.le
  have hcv : coversV l es = coversV (l.drop 0) (es.drop 0) := rfl
  refine calls_of_exec env_ok.keeps Try.func22 rfl [(9, (line [0, 1, 2, 3, 4, 5, 6, 7, 8, 9, 10, 11, 12, 13, 14], []))] (schedQ_ok _ _ (by kernel_rfl)) [rowF (pt a n) (cellsE l), rowF (pt b m) (cellsE es)] (at2 hrow hrow2) ?_
  (conv => arg 5; whnf)
  refine loop_rule env_ok.keeps [(9, (line [0, 1, 2, 3, 4, 5, 6, 7, 8, 9, 10, 11, 12, 13, 14], []))] (schedQ_ok _ _ (by kernel_rfl)) (fun q : Nat × Nat => q.1 ≤ n ∧ q.2 ≤ m ∧ coversV l es = coversV (l.drop q.1) (es.drop q.2)) (fun q => (⟨[], [], [rowF (pt a n) (cellsE l), rowF (pt b m) (cellsE es)]⟩, sl 65 [(0, .v (.slice a n c)), (1, .v (.slice b m d)), (4, .v (.bool false)), (5, .v (.int .i64 (q.2 : Nat))), (6, .v (.int .i64 (q.1 : Nat)))])) (fun q => n - q.1) (0, 0) ⟨Nat.zero_le _, Nat.zero_le _, hcv⟩ ⟨by repeat' first | exact trivial | refine ⟨.inl rfl, ?_⟩ | refine ⟨.inr rfl, ?_⟩, ⟨by repeat' first | exact trivial | refine ⟨.inl rfl, ?_⟩ | refine ⟨.inr rfl, ?_⟩, by repeat' first | exact trivial | refine ⟨.inl rfl, ?_⟩ | refine ⟨.inr rfl, ?_⟩, fun _ h => h⟩, rfl⟩ ?_
  rintro ⟨k, p⟩ ⟨hk, hp, hcv⟩
  simp only [] at hk hp hcv
  (conv => arg 5; whnf)
  refine wp_br (fun h1 => ?_) (fun h1 => ?_)
  · have hlt : k < n := by simp at h1; omega
    have hx := nx_get (l := l) (k := k) (by omega)
    rw [coversV_at hx] at hcv
    have hfx := hfit _ (List.mem_of_getElem? hx)
    generalize nx l k = x at *
    have hdl : (es.drop p).length = m - p := by rw [List.length_drop, hm]
    rw [List.drop_drop] at hcv
    (conv => arg 5; whnf)
    refine wp_must ⟨by omega, by omega, hs.some hlt⟩ ?_
    (conv => arg 5; whnf)
    refine readP (.int .i64 x.k) rfl (.head _) hlt (hs.some hlt) (cellsE_at hx 0 _ rfl) (j := k * 8 + 0) (by cases a <;> simp [Addr.add_add]) ?_
    (conv => arg 5; whnf)
    refine wp_br (fun h2 => ?_) (fun h2 => ?_)
    · have h2 : x.k = 4 := by simpa using h2
      (conv => arg 5; whnf)
      refine wp_must ⟨by omega, by omega, hs.some hlt⟩ ?_
      (conv => arg 5; whnf)
      refine readP (.int .i64 x.m) rfl (.head _) hlt (hs.some hlt) (cellsE_at hx 7 _ rfl) (j := k * 8 + 7) (by cases a <;> simp [Addr.add_add]) ?_
      (conv => arg 5; whnf)
      refine wp_g0 (fun h3 => ?_) (fun h3 => ?_)
      · (conv => arg 5; whnf)
        refine wp_must ⟨by omega, by omega, hs.some hlt⟩ ?_
        (conv => arg 5; whnf)
        refine readP (.int .i64 x.m) rfl (.head _) hlt (hs.some hlt) (cellsE_at hx 7 _ rfl) (j := k * 8 + 7) (by cases a <;> simp [Addr.add_add]) ?_
        (conv => arg 5; whnf)
        refine wp_must ⟨by omega, by omega⟩ ?_
        (conv => arg 5; whnf)
        refine wp_br (fun h4 => ?_) (fun h4 => ?_)
        · rw [if_pos (by unfold stV; rw [if_pos h2, if_pos (by simp at h3 h4; omega)])] at hcv
          rw [hcv]
          (conv => arg 5; whnf)
          exact wp_back fun β ρ w' hM' => ⟨rfl, hM'.below⟩
        · have e1 : stV x (es.drop p) = x.m.toNat := by unfold stV; rw [if_pos h2, if_neg (by simp at h3 h4; omega)]
          rw [e1, if_neg (by simp at h3; omega)] at hcv
          have e2 : (p : Int) + x.m = ((p + x.m.toNat : Nat) : Int) := by simp at h3; omega
          (conv => arg 5; whnf)
          refine wp_must ⟨by omega, by omega, hs.some hlt⟩ ?_
          (conv => arg 5; whnf)
          refine readP (.int .i64 x.m) rfl (.head _) hlt (hs.some hlt) (cellsE_at hx 7 _ rfl) (j := k * 8 + 7) (by cases a <;> simp [Addr.add_add]) ?_
          (conv => arg 5; whnf)
          refine wp_must ⟨by simp at h3; omega, by simp at h3 h4; omega⟩ ?_
          (conv => arg 5; whnf)
          refine wp_must ⟨by omega, by omega⟩ ?_
          (conv => arg 5; whnf)
          rw [e2]; refine wp_end ⟨(k + 1, p + x.m.toNat), ⟨hlt, by simp at h4; omega, hcv⟩, ⟨by repeat' first | exact trivial | refine ⟨.inl rfl, ?_⟩ | refine ⟨.inr rfl, ?_⟩, ⟨by repeat' first | exact trivial | refine ⟨.inl rfl, ?_⟩ | refine ⟨.inr rfl, ?_⟩, by repeat' first | exact trivial | refine ⟨.inl rfl, ?_⟩ | refine ⟨.inr rfl, ?_⟩, fun _ h => h⟩, rfl⟩, by show n - (k + 1) < n - k; omega⟩
      · rw [if_pos (by unfold stV; rw [if_pos h2, if_pos (by simp at h3; omega)])] at hcv
        rw [hcv]
        (conv => arg 5; whnf)
        exact wp_back fun β ρ w' hM' => ⟨rfl, hM'.below⟩
    · have h2 : ¬ x.k = 4 := by simpa using h2
      (conv => arg 5; whnf)
      refine wp_g0 (fun h3 => ?_) (fun h3 => ?_)
      · have hpl : p < m := by simp at h3; omega
        have hy := nx_get (l := es) (k := p) (by omega)
        have e0 : es.drop p = nx es p :: es.drop (p + 1) := by
          obtain ⟨hk2, hx2⟩ := List.getElem?_eq_some_iff.1 hy
          rw [List.drop_eq_getElem_cons hk2, hx2]
        have e1 : stV x (es.drop p) = if evB x (nx es p) = true then 1 else 0 := by unfold stV; rw [if_neg h2, e0]
        rw [e1] at hcv
        generalize nx es p = y at hy hcv
        (conv => arg 5; whnf)
        refine wp_must ⟨by omega, by omega, hs2.some hpl⟩ ?_
        (conv => arg 5; whnf)
        refine readE (l := es) (k := p) (x := y) rfl (.tail _ (.head _)) hpl (hs2.some hpl) hy rfl ?_
        (conv => arg 5; whnf)
        refine wp_must ⟨by omega, by omega, hs.some hlt⟩ ?_
        (conv => arg 5; whnf)
        refine readE (l := l) (k := k) (x := x) rfl (.head _) hlt (hs.some hlt) hx rfl ?_
        (conv => arg 5; whnf)
        refine wp_prim (.bool (!evB y x)) (fun w => neq_any _ _ y x w) ?_
        (conv => arg 5; whnf)
        refine wp_br (fun h4 => ?_) (fun h4 => ?_)
        · rw [evB_comm y x] at h4
          rw [if_neg (show ¬ evB x y = true by simpa using h4), if_pos rfl] at hcv
          rw [hcv]
          (conv => arg 5; whnf)
          exact wp_back fun β ρ w' hM' => ⟨rfl, hM'.below⟩
        · rw [evB_comm y x] at h4
          rw [if_pos (show evB x y = true by simpa using h4), if_neg (by decide)] at hcv
          (conv => arg 5; whnf)
          refine wp_must ⟨by omega, by omega⟩ ?_
          (conv => arg 5; whnf)
          refine wp_must ⟨by omega, by omega⟩ ?_
          (conv => arg 5; whnf)
          refine wp_end ⟨(k + 1, p + 1), ⟨hlt, hpl, hcv⟩, ⟨by repeat' first | exact trivial | refine ⟨.inl rfl, ?_⟩ | refine ⟨.inr rfl, ?_⟩, ⟨by repeat' first | exact trivial | refine ⟨.inl rfl, ?_⟩ | refine ⟨.inr rfl, ?_⟩, by repeat' first | exact trivial | refine ⟨.inl rfl, ?_⟩ | refine ⟨.inr rfl, ?_⟩, fun _ h => h⟩, rfl⟩, by show n - (k + 1) < n - k; omega⟩
      · rw [if_pos (by unfold stV; rw [if_neg h2, List.drop_eq_nil_of_le (by simp at h3; omega)])] at hcv
        rw [hcv]
        (conv => arg 5; whnf)
        exact wp_back fun β ρ w' hM' => ⟨rfl, hM'.below⟩
  · rw [List.drop_eq_nil_of_le (by simp at h1; omega)] at hcv
    have e1 : coversV l es = decide (p = m) := by rw [hcv]; unfold coversV; rw [List.length_drop]; simp; omega
    rw [e1]
    (conv => arg 5; whnf)
    exact wp_back fun β ρ w' hM' => ⟨by by_cases h : p = m; (subst h; simp); (have h2 : ¬ ((p : Nat) : Int) = ((m : Nat) : Int) := by omega); simp [h, h2], hM'.below⟩
def fewB (l : List Ev) : Bool := l.all fun x => decide (x.d.size ≤ 500)
theorem fewB_at {l : List Ev} {k : Nat} {x : Ev} (h : l[k]? = some x) : fewB (l.drop k) = (decide (x.d.size ≤ 500) && fewB (l.drop (k + 1))) := by
  obtain ⟨hk, hx⟩ := List.getElem?_eq_some_iff.1 h
  rw [List.drop_eq_getElem_cons hk, hx]
  rfl
set_option maxHeartbeats 4000000 in
set_option maxRecDepth 100000 in
theorem rfew (q : Int) (a : Option Addr) (n c : Nat) (l : List Ev) (w : World) (hs : Sl a n c) (hn : n = l.length) (hrow : At w (pt a n) (cellsE l)) (hd : ∀ x ∈ l, x.d.size ≤ maxLen) : Calls Try.prog 9 (List.toArray [.slice a n c, .int .i64 q]) w fun e w' =>  e = .returned (.bool (fewB l && decide ((n : Int) ≤ q))) ∧ Below w.heap.size w w' := by
  have hn63 := hs.le
  refine calls_of_exec env_ok.keeps Try.func9 rfl [] (schedQ_ok _ _ (by kernel_rfl)) [rowF (pt a n) (cellsE l)] (at1 hrow) ?_
  (conv => arg 5; whnf)
  refine loop_rule env_ok.keeps [] (by kernel_rfl) (fun k : Nat => k ≤ n ∧ fewB l = fewB (l.drop k)) (fun k => (⟨[], [], [rowF (pt a n) (cellsE l)]⟩, sl 24 [(0, .v (.slice a n c)), (1, .v (.int .i64 q)), (4, .v (.bool false)), (5, .v (.int .i64 (k : Nat)))])) (fun k => n - k) 0 ⟨Nat.zero_le _, rfl⟩ ⟨by repeat' first | exact trivial | refine ⟨.inl rfl, ?_⟩ | refine ⟨.inr rfl, ?_⟩, ⟨by repeat' first | exact trivial | refine ⟨.inl rfl, ?_⟩ | refine ⟨.inr rfl, ?_⟩, by repeat' first | exact trivial | refine ⟨.inl rfl, ?_⟩ | refine ⟨.inr rfl, ?_⟩, fun _ h => h⟩, rfl⟩ ?_
  rintro k ⟨hk, hr⟩
  (conv => arg 5; whnf)
  refine wp_br (fun h1 => ?_) (fun h1 => ?_)
  · have hlt : k < n := by simp at h1; omega
    have hx := nx_get (l := l) (k := k) (by omega)
    rw [fewB_at hx] at hr
    have hdx := hd _ (List.mem_of_getElem? hx)
    generalize nx l k = x at *
    unfold maxLen at hdx
    (conv => arg 5; whnf)
    refine wp_must ⟨by omega, by omega, hs.some hlt⟩ ?_
    (conv => arg 5; whnf)
    refine readP (.string x.d) rfl (.head _) hlt (hs.some hlt) (cellsE_at hx 6 _ rfl) (j := k * 8 + 6) (by cases a <;> simp [Addr.add_add]) ?_
    (conv => arg 5; whnf)
    refine wp_br (fun h2 => ?_) (fun h2 => ?_)
    · have h2 : decide (x.d.size ≤ 500) = false := by simp at h2 ⊢; omega
      rw [h2] at hr
      (conv => arg 5; whnf)
      exact wp_back fun β ρ w' hM' => ⟨by rw [hr]; rfl, hM'.below⟩
    · have h2 : decide (x.d.size ≤ 500) = true := by simp at h2 ⊢; omega
      rw [h2, Bool.true_and] at hr
      (conv => arg 5; whnf)
      refine wp_must ⟨by omega, by omega⟩ ?_
      (conv => arg 5; whnf)
      refine wp_end ⟨k + 1, ⟨hlt, hr⟩, ⟨by repeat' first | exact trivial | refine ⟨.inl rfl, ?_⟩ | refine ⟨.inr rfl, ?_⟩, ⟨by repeat' first | exact trivial | refine ⟨.inl rfl, ?_⟩ | refine ⟨.inr rfl, ?_⟩, by repeat' first | exact trivial | refine ⟨.inl rfl, ?_⟩ | refine ⟨.inr rfl, ?_⟩, fun _ h => h⟩, rfl⟩, by show n - (k + 1) < n - k; omega⟩
  · rw [List.drop_eq_nil_of_le (by simp at h1; omega)] at hr
    (conv => arg 5; whnf)
    exact wp_back fun β ρ w' hM' => ⟨by rw [hr]; rfl, hM'.below⟩
set_option maxHeartbeats 4000000 in
set_option maxRecDepth 100000 in
theorem events (a : Option Addr) (n c : Nat) (l : List Ev) (b : Option Addr) (d : Nat) (w : World) (hs : Sl a n c) (hn : n = l.length) (hrow : At w (pt a n) (cellsE l)) (hs2 : Sl b n d) (hrow2 : At w (pt b n) (cellsE l)) : Calls Try.prog 18 (List.toArray [.slice a n c, .slice b n d]) w fun e w' =>  e = .returned (.bool true) ∧ Below w.heap.size w w' := by
  have hn63 := hs.le
  refine calls_of_exec env_ok.keeps Try.func18 rfl [(6, (line [0, 1, 2, 3, 4, 5, 6, 7, 8], []))] (schedQ_ok _ _ (by kernel_rfl)) [rowF (pt a n) (cellsE l), rowF (pt b n) (cellsE l)] (at2 hrow hrow2) ?_
  (conv => arg 5; whnf)
  refine wp_br (fun h => absurd h (by simp)) (fun _ => ?_)
  (conv => arg 5; whnf)
  refine loop_rule env_ok.keeps [(6, (line [0, 1, 2, 3, 4, 5, 6, 7, 8], []))] (schedQ_ok _ _ (by kernel_rfl)) (fun k : Nat => k ≤ n) (fun k => (⟨[], [], [rowF (pt a n) (cellsE l), rowF (pt b n) (cellsE l)]⟩, sl 26 [(0, .v (.slice a n c)), (1, .v (.slice b n d)), (4, .v (.bool false)), (5, .v (.int .i64 (k : Nat)))])) (fun k => n - k) 0 (Nat.zero_le _) ⟨by repeat' first | exact trivial | refine ⟨.inl rfl, ?_⟩ | refine ⟨.inr rfl, ?_⟩, ⟨by repeat' first | exact trivial | refine ⟨.inl rfl, ?_⟩ | refine ⟨.inr rfl, ?_⟩, by repeat' first | exact trivial | refine ⟨.inl rfl, ?_⟩ | refine ⟨.inr rfl, ?_⟩, fun _ h => h⟩, rfl⟩ ?_
  intro k hk
  (conv => arg 5; whnf)
  refine wp_br (fun h1 => ?_) (fun h1 => ?_)
  · have hlt : k < n := by simp at h1; omega
    have hx := nx_get (l := l) (k := k) (by omega)
    generalize nx l k = x at *
    (conv => arg 5; whnf)
    refine wp_must ⟨by omega, by omega, hs.some hlt⟩ ?_
    (conv => arg 5; whnf)
    refine readE (l := l) (k := k) (x := x) rfl (.head _) hlt (hs.some hlt) hx rfl ?_
    (conv => arg 5; whnf)
    refine wp_must ⟨by omega, by omega, hs2.some hlt⟩ ?_
    (conv => arg 5; whnf)
    refine readE (l := l) (k := k) (x := x) rfl (.tail _ (.head _)) hlt (hs2.some hlt) hx rfl ?_
    (conv => arg 5; whnf)
    refine wp_prim (.bool false) (fun w => neq_same _ _ x w) ?_
    (conv => arg 5; whnf)
    refine wp_must ⟨by omega, by omega⟩ ?_
    (conv => arg 5; whnf)
    refine wp_end ⟨k + 1, hlt, ⟨by repeat' first | exact trivial | refine ⟨.inl rfl, ?_⟩ | refine ⟨.inr rfl, ?_⟩, ⟨by repeat' first | exact trivial | refine ⟨.inl rfl, ?_⟩ | refine ⟨.inr rfl, ?_⟩, by repeat' first | exact trivial | refine ⟨.inl rfl, ?_⟩ | refine ⟨.inr rfl, ?_⟩, fun _ h => h⟩, rfl⟩, by show n - (k + 1) < n - k; omega⟩
  · (conv => arg 5; whnf)
    exact wp_back fun β ρ w' hM' => ⟨rfl, hM'.below⟩
set_option maxHeartbeats 4000000 in
set_option maxRecDepth 100000 in
theorem same (a : Option Addr) (n c : Nat) (l : List Ev) (b : Option Addr) (d : Nat) (w : World) (hs : Sl a n c) (hn : n = l.length) (hrow : At w (pt a n) (cellsE l)) (hs2 : Sl b n d) (hrow2 : At w (pt b n) (cellsE l)) (r lost : Int) : Calls Try.prog 17 (List.toArray [fd r a n c lost, fd r b n d lost]) w fun e w' =>  e = .returned (.bool true) ∧ Below w.heap.size w w' := by
  refine calls_of_exec env_ok.keeps Try.func17 rfl [] (schedQ_ok _ _ (by kernel_rfl)) [rowF (pt a n) (cellsE l), rowF (pt b n) (cellsE l)] (at2 hrow hrow2) ?_
  (conv => arg 5; whnf)
  refine wp_g1 (fun _ => ?_) (fun h => by simp at h)
  (conv => arg 5; whnf)
  refine wp_g1 (fun _ => ?_) (fun h => by simp at h)
  (conv => arg 5; whnf)
  refine meetc (f := 18) (v := .bool true) rfl (by kernel_rfl) (fun β ρ w' hM' => events a n c l b d w' hs hn (hM'.at_ (.head _)) hs2 (hM'.at_ (.tail _ (.head _)))) ?_
  (conv => arg 5; whnf)
  exact wp_back fun β ρ w' hM' => ⟨rfl, hM'.below⟩
end Go.Proofs.Ytlfiaebnknhmbaa.feed
