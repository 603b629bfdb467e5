/- Layer 14 (feed), by contract: events; what is read. -/
import Derived.Test.YtlfiaebnknhmbaaGive
import Derived.Test.YtlfiaebnknhmbaaShape
import Derived.Test.YtlfiaebnknhmbaaSxV
namespace Go.Proofs.Ytlfiaebnknhmbaa.feed
open Go.RowKit Sx
set_option linter.unusedVariables false
set_option linter.unusedSimpArgs false
structure Ev where
  k : Int
  s : Int
  n : Int
  t : Int
  c : Int
  g : Int
  d : ByteArray
  m : Int
def Ev.cells (x : Ev) : List Value := [.int .i64 x.k, .int .i64 x.s, .int .i64 x.n, .int .i64 x.t, .int .i64 x.c, .int .i64 x.g, .string x.d, .int .i64 x.m]
def Ev.val (x : Ev) : Value := .agg #[.int .i64 x.k, .int .i64 x.s, .int .i64 x.n, .int .i64 x.t, .int .i64 x.c, .int .i64 x.g, .string x.d, .int .i64 x.m]
def cellsE (l : List Ev) : List Value := l.flatMap Ev.cells
theorem cellsE_length (l : List Ev) : (cellsE l).length = l.length * 8 := by
  induction l with
  | nil => rfl
  | cons x l ih => simp only [cellsE, List.flatMap_cons, List.length_append] at ih ⊢; rw [ih]; simp [Ev.cells]; omega
theorem cellsE_at : ∀ {l : List Ev} {k : Nat} {x : Ev}, l[k]? = some x → ∀ (j : Nat) (u : Value), x.cells[j]? = some u → (cellsE l)[k * 8 + j]? = some u
  | y :: l, 0, x, h, j, u, hu => by
    simp at h
    subst h
    have hj : j < 8 := by have := (List.getElem?_eq_some_iff.1 hu).1; simpa [Ev.cells] using this
    simp only [cellsE, List.flatMap_cons]
    rw [List.getElem?_append_left (by simp [Ev.cells]; omega)]
    simpa using hu
  | y :: l, k + 1, x, h, j, u, hu => by
    have ih := cellsE_at (l := l) (k := k) (by simpa using h) j u hu
    simp only [cellsE, List.flatMap_cons]
    rw [List.getElem?_append_right (by simp [Ev.cells]; omega)]
    have : (k + 1) * 8 + j - (Ev.cells y).length = k * 8 + j := by simp [Ev.cells]; omega
    rw [this]
    exact ih
theorem cellsE_append (l r : List Ev) : cellsE (l ++ r) = cellsE l ++ cellsE r := by simp [cellsE]
theorem cellsE_one (l : List Ev) : ∀ u ∈ cellsE l, u.oneCell' = true := by
  intro u hu
  simp only [cellsE, List.mem_flatMap, Ev.cells] at hu
  obtain ⟨x, _, hx⟩ := hu
  simp at hx
  rcases hx with rfl | rfl | rfl | rfl | rfl | rfl | rfl | rfl <;> rfl
theorem cellsE_drop (l : List Ev) (j : Nat) : cellsE (l.drop j) = (cellsE l).drop (j * 8) := by
  induction l generalizing j with
  | nil => simp [cellsE]
  | cons x l ih =>
    cases j with
    | zero => simp [cellsE]
    | succ j =>
      have := ih j
      simp only [cellsE] at this
      simp only [cellsE, List.drop_succ_cons, List.flatMap_cons]
      rw [this, show (j + 1) * 8 = (Ev.cells x).length + j * 8 from by simp [Ev.cells]; omega, List.drop_length_add_append]
theorem cellsE_take (l : List Ev) (j : Nat) : cellsE (l.take j) = (cellsE l).take (j * 8) := by
  induction l generalizing j with
  | nil => simp [cellsE]
  | cons x l ih =>
    cases j with
    | zero => simp [cellsE]
    | succ j =>
      have := ih j
      simp only [cellsE] at this
      simp only [cellsE, List.take_succ_cons, List.flatMap_cons]
      rw [this, show (j + 1) * 8 = (Ev.cells x).length + j * 8 from by simp [Ev.cells]; omega, List.take_length_add_append]
theorem at_take {w : World} {a : Option Addr} {xs : List Value} (h : At w a xs) (k : Nat) : At w a (xs.take k) := by
  intro g hg
  obtain ⟨o, ho, hp⟩ := h g hg
  refine ⟨o, ho, fun ad had => ?_⟩
  obtain ⟨h1, cur, e, fr, h2, h3⟩ := hp ad had
  refine ⟨h1, cur, e, fr, h2, fun j u hu => h3 j u ?_⟩
  rw [List.getElem?_take] at hu
  split at hu
  · exact hu
  · cases hu
theorem at_drop {w : World} {a : Option Addr} {xs : List Value} (h : At w a xs) (k : Nat) : At w (a.map fun x => x.add k) (xs.drop k) := by
  cases a with
  | none => intro g hg; cases hg
  | some ad =>
    obtain ⟨b, off, sp⟩ := ad
    obtain ⟨o, ho, hp⟩ := h b rfl
    obtain ⟨h1, cur, e, fr, h2, h3⟩ := hp _ rfl
    simp only [] at h1
    subst h1
    show At w (some ((⟨b, off, none⟩ : Addr).add k)) _
    rw [Sx.add_mk]
    intro g hg
    cases hg
    refine ⟨o, ho, fun ad2 had => ?_⟩
    cases had
    refine ⟨rfl, cur, e, fr, h2, fun j u hu => ?_⟩
    rw [List.getElem?_drop] at hu
    have := h3 _ _ hu
    simpa [Nat.add_assoc] using this
/-- Where the rest of a row begins. -/
def shift (a : Option Addr) (c j : Nat) : Option Addr := if c = j then a else a.map fun x => x.add (j * 8)
theorem at_end {w : World} {a : Option Addr} {n c : Nat} {l : List Ev} (h : At w (pt a n) (cellsE l)) (j : Nat) (hj : j ≤ n) (hc : n ≤ c) : At w (pt (shift a c j) (n - j)) (cellsE (l.drop j)) := by
  unfold shift
  by_cases h0 : n - j = 0
  · rw [show pt _ (n - j) = none from if_pos h0]
    intro g hg
    cases hg
  · rw [show pt a n = a from if_neg (by omega)] at h
    rw [show pt _ (n - j) = _ from if_neg h0, if_neg (by omega), cellsE_drop]
    exact at_drop h _
theorem at_begin {w : World} {a : Option Addr} {n : Nat} {l : List Ev} (h : At w (pt a n) (cellsE l)) (j : Nat) (hj : j ≤ n) : At w (pt a j) (cellsE (l.take j)) := by
  by_cases h0 : j = 0
  · rw [show pt a j = none from if_pos h0]
    intro g hg
    cases hg
  · rw [show pt a n = a from if_neg (by omega)] at h
    rw [show pt a j = a from if_neg h0, cellsE_take]
    exact at_take h _
theorem sl_end {a : Option Addr} {n c : Nat} (h : Sl a n c) (j : Nat) (hj : j ≤ n) : Sl (shift a c j) (n - j) (c - j) := by
  refine ⟨by have := h.1; omega, by have := h.2.1; omega, fun hn => ?_⟩
  unfold shift at hn
  cases a with
  | none => have := h.2.2 rfl; exact ⟨by omega, by omega⟩
  | some ad => split at hn <;> simp at hn
theorem sl_begin {a : Option Addr} {n c : Nat} (h : Sl a n c) (j : Nat) (hj : j ≤ n) : Sl a j c := ⟨by have := h.1; omega, h.2.1, fun hn => ⟨by have := (h.2.2 hn).1; omega, (h.2.2 hn).2⟩⟩
theorem slice_from (a : Option Addr) (n c j : Nat) (w : World) (h : j ≤ n) (hc : n ≤ c) : (do pure (Next.value (← Instr.sliceAt 22 (.slice a n c) (some (.int .i64 j)) none none)) : Sem Next).run Try.prog w = .ok (.value (.slice (shift a c j) (n - j) (c - j))) w := by
  have h2 : (j : Int) ≤ n := by omega
  have h3 : (n : Int) ≤ c := by omega
  unfold shift
  by_cases h4 : c = j
  · have h5 : (c : Int) = j := by omega
    simp [Instr.sliceAt, Instr.slice, run_underlying Try.underlying22, Sem.run_bind, go_sem, h2, h3, h4, h5]
  · simp [Instr.sliceAt, Instr.slice, run_underlying Try.underlying22, Sem.run_bind, go_sem, h2, h3, h4]
theorem slice_to (a : Option Addr) (n c j : Nat) (w : World) (h : j ≤ c) : (do pure (Next.value (← Instr.sliceAt 22 (.slice a n c) none (some (.int .i64 j)) none)) : Sem Next).run Try.prog w = .ok (.value (.slice a j c)) w := by
  have h2 : (j : Int) ≤ c := by omega
  simp [Instr.sliceAt, Instr.slice, run_underlying Try.underlying22, Sem.run_bind, go_sem, h2]
section
variable {W : World} {G : Option Nat} {Q : Ending → World → Prop} {ds : List Deferred}
/-- One of a row's events, whole. -/
theorem readE {ty : TypeId} {ad : Option Addr} {l : List Ev} {k : Nat} {x : Ev} {m : M} {K : Value → Tree} {a : Addr} (hty : lk env.agg ty = some (some 8)) {n : Nat} (hm : rowF (pt ad n) (cellsE l) ∈ m.facts) (hk : k < n) (ha : ad.isSome = true) (hx : l[k]? = some x)
    (haddr : a = (ad.getD ⟨0, 0, none⟩).add (k * 8)) (h : (K x.val).wpD Try.prog W G Q ds) : (Tree.load ty a m K).wpD Try.prog W G Q ds := by
  rw [pt_pos hk] at hm
  refine ⟨x.val, fun β ρ w hM => ?_, h⟩
  cases ad with
  | none => cases ha
  | some ad =>
    have := env_ok.aggN ty 8 hty a w x.cells rfl (fun j u hu => by
      have hc := (hM.at_ hm).cell (cellsE_at hx j u hu)
      rw [haddr]
      simp only [Option.getD_some]
      obtain ⟨b, o, sp⟩ := ad
      unfold Addr.add at hc ⊢
      by_cases h1 : k * 8 = 0 <;> by_cases h2 : j = 0 <;> simp_all [Nat.add_assoc])
    rw [this]
    rfl
end
theorem at2 {w : World} {a b : Option Addr} {xs ys : List Value} (h : At w a xs) (k : At w b ys) : ∀ φ ∈ [rowF a xs, rowF b ys], ∀ g, φ.g = some g → ∃ o, w.heap[g]? = some o ∧ φ.holds o := by
  intro φ hφ
  simp only [List.mem_cons, List.not_mem_nil, or_false] at hφ
  rcases hφ with rfl | rfl
  · exact h
  · exact k
theorem own_row {w : World} {base : Nat} {e : TypeId} {size : Nat} {v : Value} {n : Nat} {xs : List Value} (h : w.ownsRow base e size v n xs) : ∃ a c, v = .slice a n c ∧ Sl a n c ∧ (∀ ad, a = some ad → base ≤ ad.block) ∧ At w (pt a n) xs := by
  obtain ⟨hl, ⟨rfl, rfl⟩ | ⟨g, cap, cur, rfl, hb, hg, hn, hc, hsz, hx⟩⟩ := h
  · exact ⟨none, 0, rfl, ⟨Nat.le_refl _, Nat.zero_le _, fun _ => ⟨rfl, rfl⟩⟩, fun ad h => (by cases h), fun g hg => (by cases hg)⟩
  · refine ⟨_, cap, rfl, ⟨hn, hc, fun h => (by cases h)⟩, fun ad h => (by cases h; exact hb), ?_⟩
    by_cases h0 : n = 0
    · rw [show pt _ n = none from if_pos h0]
      intro g hg
      cases hg
    · rw [show pt _ n = _ from if_neg h0]
      intro g' hg'
      cases hg'
      refine ⟨_, hg, fun ad had => ?_⟩
      cases had
      refine ⟨rfl, cur, e, _, rfl, fun j u hu => ?_⟩
      have hj : j < n * size := by
        have := (List.getElem?_eq_some_iff.1 hu).1
        omega
      rw [← hx, List.getElem?_take, if_pos hj, Array.getElem?_toList] at hu
      simpa using hu
/-- A feed. -/
def fd (r : Int) (a : Option Addr) (n c : Nat) (lost : Int) : Value := .agg #[.int .i64 r, .slice a n c, .int .i64 lost]
def ev0 : Ev := ⟨0, 0, 0, 0, 0, 0, ByteArray.empty, 0⟩
def lag (n : Int) : Ev := ⟨4, 0, 0, 0, 0, 0, ByteArray.empty, n⟩
theorem eq_same (x y : Operand) (t : Ev) (w : World) : (do eqGuard .eql 36 x y t.val t.val; pure (Next.value (← binOp .eql 36 t.val t.val)) : Sem Next).run Try.prog w = .ok (.value (.bool true)) w := by
  simp [Ev.val, eqGuard, go_sem]
theorem neq_same (x y : Operand) (t : Ev) (w : World) : (do eqGuard .neq 36 x y t.val t.val; pure (Next.value (← binOp .neq 36 t.val t.val)) : Sem Next).run Try.prog w = .ok (.value (.bool false)) w := by
  simp [Ev.val, eqGuard, go_sem]
section
variable {P : Program} {W : World} {G : Option Nat} {Q : Ending → World → Prop} {ds : List Deferred}
theorem cellsE_pos {l : List Ev} {j : Nat} {u : Value} (h : (cellsE l)[j]? = some u) : 0 < l.length := by
  cases l with
  | nil => simp [cellsE] at h
  | cons x l => simp
theorem rowsE {l : List Ev} {a : Option Addr} {n : Nat} {m : M} {K : List Value → Tree} (hn : n = l.length) (hm : rowF (pt a n) (cellsE l) ∈ m.facts) (h : (K (cellsE l)).wpD P W G Q ds) : (Tree.rows a n 8 m K).wpD P W G Q ds := by
  refine ⟨cellsE l, by rw [cellsE_length, hn], cellsE_one l, fun β ρ w' hM' ad had j u hu => ?_, h⟩
  subst had
  have h1 := hM'.at_ hm
  rw [pt_pos (k := 0) (by have := cellsE_pos hu; omega)] at h1
  exact h1.cell hu
end
def nx (l : List Ev) (k : Nat) : Ev := l[k]?.getD ev0
theorem nx_get {l : List Ev} {k : Nat} (h : k < l.length) : l[k]? = some (nx l k) := by unfold nx; rw [List.getElem?_eq_getElem h]; rfl
set_option maxHeartbeats 4000000 in
set_option maxRecDepth 100000 in
theorem copied (a : Option Addr) (n c : Nat) (l : List Ev) (w : World) (hs : Sl a n c) (hn : n = l.length) (hl : l.length ≤ 1000000) (hrow : At w (pt a n) (cellsE l)) : Calls Try.prog 25 (List.toArray [.slice a n c]) w fun e w' => ∃ v, e = .returned v ∧ Below w.heap.size w w' ∧ w'.ownsRow w.heap.size 36 8 v n (cellsE l) := by
  refine calls_of_row env_ok Try.func25 rfl [] (by kernel_rfl) (n := 2) rfl [.v (.slice a n c)] ⟨[], [], [rowF (pt a n) (cellsE l)]⟩ [] (mem_plain _ (at1 hrow)) (Rels.vals [.slice a n c]) ?_
  (conv => arg 5; whnf)
  refine rowsE hn (.head _) ?_
  (conv => arg 5; whnf)
  refine wp_must ⟨by show 0 + n ≤ maxLen; unfold maxLen; omega, by show (0 + n) * 72 ≤ _; omega, fun h => ⟨(hs.2.2 h).1, (hs.2.2 h).2⟩⟩ ?_
  refine wp_end (fun β ρ w' v hM' hv => ⟨v, rfl, hM'.below, ?_⟩)
  have := hM'.mine (i := 0) (r := ⟨36, 8, 0 + n, [] ++ cellsE l⟩) rfl hv
  rwa [Nat.zero_add, List.nil_append] at this
theorem gives_of_own {w w' : World} {v : Value} {n : Nat} {xs : List Value} (hb : Below w.heap.size w w') (ho : w'.ownsRow w.heap.size 36 8 v n xs) : ∃ i : One, Sl i.1 n i.2 ∧ Gives w w' (.returned v) (.slice i.1 n i.2) [rowF (pt i.1 n) xs] := by
  obtain ⟨a, c, rfl, hs, hlo, hat⟩ := own_row ho
  refine ⟨(a, c), hs, rfl, hb, ?_⟩
  intro φ hφ g hg
  simp only [List.mem_singleton] at hφ
  subst hφ
  refine ⟨?_, hat g hg⟩
  by_cases h0 : n = 0
  · rw [show rowF (pt a n) xs = rowF none xs by rw [show pt a n = none from if_pos h0]] at hg; cases hg
  · rw [show rowF (pt a n) xs = rowF a xs by rw [show pt a n = a from if_neg h0]] at hg
    cases a with
    | none => cases hg
    | some ad => cases hg; exact hlo ad rfl
theorem copiedG (a : Option Addr) (n c : Nat) (l : List Ev) (w : World) (hs : Sl a n c) (hn : n = l.length) (hl : l.length ≤ 1000000) (hrow : At w (pt a n) (cellsE l)) : Calls Try.prog 25 (List.toArray [.slice a n c]) w fun e w' => ∃ i : One, Sl i.1 n i.2 ∧ Gives w w' e (.slice i.1 n i.2) [rowF (pt i.1 n) (cellsE l)] :=
  (copied a n c l w hs hn hl hrow).mono fun e w' ⟨v, he, hb, ho⟩ => by subst he; exact gives_of_own hb ho
section
variable {P : Program} {W : World} {G : Option Nat} {Q : Ending → World → Prop} {ds : List Deferred}
abbrev Two := One × One
/-- A call that answers with a row of its own making. -/
theorem meet1F {f : FuncId} {args : List Sx.T} {l : List Value} {m : M} {k : Value → List Fact → Tree} {n : Nat} {v : Option Addr → Nat → Value} {xs : List Value} (hv : valsOf args = some l) (hc : callable P f = true)
    (hC : ∀ β ρ w, Mem W G m β ρ w → Calls P f (List.toArray l) w fun e w' => ∃ i : One, Sl i.1 n i.2 ∧ Gives w w' e (v i.1 i.2) [rowF (pt i.1 n) xs]) (h : ∀ a c, Sl a n c → (∀ g, (rowF (pt a n) xs).g = some g → W.heap.size ≤ g) → (k (v a c) [rowF (pt a n) xs]).wpD P W G Q ds) : (Tree.call f args m k).wpD P W G Q ds :=
  meetR (ι := One) (ok := fun i => Sl i.1 n i.2 ∧ ∀ g, (rowF (pt i.1 n) xs).g = some g → W.heap.size ≤ g) (v := fun i => v i.1 i.2) (fs := fun i => [rowF (pt i.1 n) xs]) hc (fun β ρ w vs hm hr => by
    rw [valsOf_spec _ _ _ hv hr]
    refine (hC β ρ w hm).mono fun e w' ⟨i, hi, hg⟩ => ⟨i, ⟨hi, fun g hgg => Nat.le_trans hm.grown.size (hg.2.2 _ List.mem_cons_self g hgg).1⟩, hg⟩) (fun i hi => h i.1 i.2 hi.1 hi.2)
theorem meet2' {f : FuncId} {args : List Sx.T} {l : List Value} {m : M} {k : Value → List Fact → Tree} {n n2 : Nat} {v : Option Addr → Nat → Option Addr → Nat → Value} {xs ys : List Value} (hv : valsOf args = some l) (hc : callable P f = true)
    (hC : ∀ β ρ w, Mem W G m β ρ w → Calls P f (List.toArray l) w fun e w' => ∃ i : Two, (Sl i.1.1 n i.1.2 ∧ Sl i.2.1 n2 i.2.2) ∧ Gives w w' e (v i.1.1 i.1.2 i.2.1 i.2.2) [rowF (pt i.1.1 n) xs, rowF (pt i.2.1 n2) ys]) (h : ∀ a c a2 c2, Sl a n c → Sl a2 n2 c2 → (k (v a c a2 c2) [rowF (pt a n) xs, rowF (pt a2 n2) ys]).wpD P W G Q ds) : (Tree.call f args m k).wpD P W G Q ds :=
  meetR (ι := Two) (ok := fun i => Sl i.1.1 n i.1.2 ∧ Sl i.2.1 n2 i.2.2) (v := fun i => v i.1.1 i.1.2 i.2.1 i.2.2) (fs := fun i => [rowF (pt i.1.1 n) xs, rowF (pt i.2.1 n2) ys]) hc (fun β ρ w vs hm hr => by rw [valsOf_spec _ _ _ hv hr]; exact hC β ρ w hm) (fun i hi => h i.1.1 i.1.2 i.2.1 i.2.2 hi.1 hi.2)
theorem give_of {W : World} {m : M} {β ρ} {w' : World} {n : Nat} {a : Option Addr} {xs : List Value} (hM : Mem W none m β ρ w') (hm : rowF (pt a n) xs ∈ m.facts) (hf : ∀ g, (rowF (pt a n) xs).g = some g → W.heap.size ≤ g) :
    ∀ φ ∈ [rowF (pt a n) xs], ∀ g, φ.g = some g → W.heap.size ≤ g ∧ ∃ o, w'.heap[g]? = some o ∧ φ.holds o := by
  intro φ hφ g hg
  simp only [List.mem_singleton] at hφ
  subst hφ
  exact ⟨hf g hg, hM.at_ hm g hg⟩
end
def newV (x : Int) : Int × Int := if 1 ≤ x ∧ x ≤ 16 then (x, 0) else (0, 1)
set_option maxHeartbeats 4000000 in
set_option maxRecDepth 100000 in
theorem new_ (x : Int) (w : World) : Calls Try.prog 11 (List.toArray [.int .i64 x]) w fun e w' =>  e = .returned (.tuple #[fd (newV x).1 none 0 0 0, .int .i64 (newV x).2]) ∧ Below w.heap.size w w' := by
  refine calls_of_exec env_ok.keeps Try.func11 rfl [] (schedQ_ok _ _ (by kernel_rfl)) [] (by simp) ?_
  unfold newV
  (conv => arg 5; whnf)
  refine wp_g0 (fun h1 => ?_) (fun h1 => ?_)
  · (conv => arg 5; whnf)
    refine wp_br (fun h2 => ?_) (fun h2 => ?_)
    · rw [if_neg (by simp at h1 h2; omega)]
      (conv => arg 5; whnf)
      exact wp_back fun β ρ w' hM' => ⟨rfl, hM'.below⟩
    · rw [if_pos (by simp at h1 h2; omega)]
      (conv => arg 5; whnf)
      exact wp_back fun β ρ w' hM' => ⟨rfl, hM'.below⟩
  · rw [if_neg (by simp at h1; omega)]
    (conv => arg 5; whnf)
    exact wp_back fun β ρ w' hM' => ⟨rfl, hM'.below⟩
set_option maxHeartbeats 4000000 in
set_option maxRecDepth 100000 in
theorem rnew (x : Int) (w : World) : Calls Try.prog 12 (List.toArray [.int .i64 x]) w fun e w' =>  e = .returned (.tuple #[fd (newV x).1 none 0 0 0, .int .i64 (newV x).2]) ∧ Below w.heap.size w w' := by
  refine calls_of_exec env_ok.keeps Try.func12 rfl [] (schedQ_ok _ _ (by kernel_rfl)) [] (by simp) ?_
  unfold newV
  (conv => arg 5; whnf)
  refine wp_g0 (fun h1 => ?_) (fun h1 => ?_)
  · (conv => arg 5; whnf)
    refine wp_br (fun h2 => ?_) (fun h2 => ?_)
    · rw [if_neg (by simp at h1 h2; omega)]
      (conv => arg 5; whnf)
      exact wp_back fun β ρ w' hM' => ⟨rfl, hM'.below⟩
    · rw [if_pos (by simp at h1 h2; omega)]
      (conv => arg 5; whnf)
      exact wp_back fun β ρ w' hM' => ⟨rfl, hM'.below⟩
  · rw [if_neg (by simp at h1; omega)]
    (conv => arg 5; whnf)
    exact wp_back fun β ρ w' hM' => ⟨rfl, hM'.below⟩
set_option maxHeartbeats 4000000 in
set_option maxRecDepth 100000 in
theorem take_item (r lost : Int) (a : Option Addr) (n c : Nat) (l : List Ev) (w : World) (hs : Sl a n c) (hn : n = l.length) (hrow : At w (pt a n) (cellsE l)) (h1 : 1 ≤ n) : Calls Try.prog 24 (List.toArray [fd r a n c lost]) w fun e w' =>  e = .returned (.tuple #[fd r (shift a c 1) (n - 1) (c - 1) lost, (nx l 0).val, .int .i64 0]) ∧ Below w.heap.size w w' := by
  have hc := hs.1
  refine calls_of_exec env_ok.keeps Try.func24 rfl [(4, (line [0, 1, 2, 3, 4], [1, 2])), (8, (line [0, 1, 2, 3, 4], [1, 2]))] (schedQ_ok _ _ (by kernel_rfl)) [rowF (pt a n) (cellsE l)] (at1 hrow) ?_
  (conv => arg 5; whnf)
  refine wp_br (fun _ => ?_) (fun h => by simp at h; omega)
  (conv => arg 5; whnf)
  refine wp_must ⟨by omega, by omega, hs.some h1⟩ ?_
  (conv => arg 5; whnf)
  refine readE (l := l) (k := 0) (x := nx l 0) rfl (.head _) h1 (hs.some h1) (nx_get (by omega)) rfl ?_
  (conv => arg 5; whnf)
  refine wp_prim (.slice (shift a c 1) (n - 1) (c - 1)) (fun w => slice_from a n c 1 w h1 hc) ?_
  (conv => arg 5; whnf)
  exact wp_back fun β ρ w' hM' => ⟨rfl, hM'.below⟩
set_option maxHeartbeats 4000000 in
set_option maxRecDepth 100000 in
theorem take_lost (r lost : Int) (a : Option Addr) (c : Nat) (w : World) (hl : 0 < lost) : Calls Try.prog 24 (List.toArray [fd r a 0 c lost]) w fun e w' =>  e = .returned (.tuple #[fd r a 0 c 0, (lag lost).val, .int .i64 0]) ∧ Below w.heap.size w w' := by
  refine calls_of_exec env_ok.keeps Try.func24 rfl [(4, (line [0, 1, 2, 3, 4], [1, 2])), (8, (line [0, 1, 2, 3, 4], [1, 2]))] (schedQ_ok _ _ (by kernel_rfl)) [] (by simp) ?_
  (conv => arg 5; whnf)
  refine wp_br (fun _ => ?_) (fun h => by simp at h; omega)
  (conv => arg 5; whnf)
  exact wp_back fun β ρ w' hM' => ⟨rfl, hM'.below⟩
set_option maxHeartbeats 4000000 in
set_option maxRecDepth 100000 in
theorem take_none (r lost : Int) (a : Option Addr) (c : Nat) (w : World) (hl : ¬ 0 < lost) : Calls Try.prog 24 (List.toArray [fd r a 0 c lost]) w fun e w' =>  e = .returned (.tuple #[fd r a 0 c lost, ev0.val, .int .i64 7]) ∧ Below w.heap.size w w' := by
  refine calls_of_exec env_ok.keeps Try.func24 rfl [(4, (line [0, 1, 2, 3, 4], [1, 2])), (8, (line [0, 1, 2, 3, 4], [1, 2]))] (schedQ_ok _ _ (by kernel_rfl)) [] (by simp) ?_
  (conv => arg 5; whnf)
  refine wp_br (fun h => by simp at h; omega) (fun _ => ?_)
  (conv => arg 5; whnf)
  exact wp_back fun β ρ w' hM' => ⟨rfl, hM'.below⟩
set_option maxHeartbeats 4000000 in
set_option maxRecDepth 100000 in
theorem rread_item (r lost : Int) (a : Option Addr) (n c : Nat) (l : List Ev) (w : World) (hs : Sl a n c) (hn : n = l.length) (hrow : At w (pt a n) (cellsE l)) (h1 : 1 ≤ n) : Calls Try.prog 14 (List.toArray [fd r a n c lost]) w fun e w' =>  e = .returned (.tuple #[fd r (shift a c 1) (n - 1) (c - 1) lost, (nx l 0).val, .int .i64 0]) ∧ Below w.heap.size w w' := by
  have hc := hs.1
  refine calls_of_exec env_ok.keeps Try.func14 rfl [(4, (line [0, 1, 2, 3, 4], [1, 2]))] (schedQ_ok _ _ (by kernel_rfl)) [rowF (pt a n) (cellsE l)] (at1 hrow) ?_
  (conv => arg 5; whnf)
  refine wp_br (fun _ => ?_) (fun h => by simp at h; omega)
  (conv => arg 5; whnf)
  refine wp_must ⟨by omega, by omega, hs.some h1⟩ ?_
  (conv => arg 5; whnf)
  refine readE (l := l) (k := 0) (x := nx l 0) rfl (.head _) h1 (hs.some h1) (nx_get (by omega)) rfl ?_
  (conv => arg 5; whnf)
  refine wp_prim (.slice (shift a c 1) (n - 1) (c - 1)) (fun w => slice_from a n c 1 w h1 hc) ?_
  (conv => arg 5; whnf)
  exact wp_back fun β ρ w' hM' => ⟨rfl, hM'.below⟩
set_option maxHeartbeats 4000000 in
set_option maxRecDepth 100000 in
theorem rread_lost (r lost : Int) (a : Option Addr) (c : Nat) (w : World) (hl : 0 < lost) : Calls Try.prog 14 (List.toArray [fd r a 0 c lost]) w fun e w' =>  e = .returned (.tuple #[fd r a 0 c 0, (lag lost).val, .int .i64 0]) ∧ Below w.heap.size w w' := by
  refine calls_of_exec env_ok.keeps Try.func14 rfl [(4, (line [0, 1, 2, 3, 4], [1, 2]))] (schedQ_ok _ _ (by kernel_rfl)) [] (by simp) ?_
  (conv => arg 5; whnf)
  refine wp_br (fun _ => ?_) (fun h => by simp at h; omega)
  (conv => arg 5; whnf)
  exact wp_back fun β ρ w' hM' => ⟨rfl, hM'.below⟩
set_option maxHeartbeats 4000000 in
set_option maxRecDepth 100000 in
theorem rread_none (r lost : Int) (a : Option Addr) (c : Nat) (w : World) (hl : ¬ 0 < lost) : Calls Try.prog 14 (List.toArray [fd r a 0 c lost]) w fun e w' =>  e = .returned (.tuple #[fd r a 0 c lost, ev0.val, .int .i64 7]) ∧ Below w.heap.size w w' := by
  refine calls_of_exec env_ok.keeps Try.func14 rfl [(4, (line [0, 1, 2, 3, 4], [1, 2]))] (schedQ_ok _ _ (by kernel_rfl)) [] (by simp) ?_
  (conv => arg 5; whnf)
  refine wp_br (fun h => by simp at h; omega) (fun _ => ?_)
  (conv => arg 5; whnf)
  exact wp_back fun β ρ w' hM' => ⟨rfl, hM'.below⟩
end Go.Proofs.Ytlfiaebnknhmbaa.feed
