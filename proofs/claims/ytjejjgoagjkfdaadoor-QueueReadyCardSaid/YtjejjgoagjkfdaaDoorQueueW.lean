/- Layer 5 (queue): Put, in plain words: what stood ahead, the new one, what stood behind. -/
import Derived.Test.YtjejjgoagjkfdaaDoorQueueU
namespace Go.Proofs.YtjejjgoagjkfdaaDoor.queue
open Go.RowKit Sx txn
set_option linter.unusedVariables false
set_option linter.unusedSimpArgs false
theorem slice_from (a : Option Addr) (n c j : Nat) (w : World) (h : j ≤ n) (hc : n ≤ c) : (do pure (Next.value (← Instr.sliceAt 22 (.slice a n c) (some (.int .i64 j)) none none)) : Sem Next).run Tryd.prog w = .ok (.value (.slice (if c = j then a else a.map fun x => x.add (j * 6)) (n - j) (c - j))) w := by
  have h2 : (j : Int) ≤ n := by omega
  have h3 : (n : Int) ≤ c := by omega
  by_cases h4 : c = j
  · have h5 : (c : Int) = j := by omega
    simp [Instr.sliceAt, Instr.slice, run_underlying Tryd.underlying22, Sem.run_bind, go_sem, h2, h3, h4, h5]
  · simp [Instr.sliceAt, Instr.slice, run_underlying Tryd.underlying22, Sem.run_bind, go_sem, h2, h3, h4]
theorem cellsL_drops (l : List Tx) (j : Nat) : cellsL (l.drop j) = (cellsL l).drop (j * 6) := by
  induction l generalizing j with
  | nil => simp [cellsL]
  | cons x l ih =>
    cases j with
    | zero => simp [cellsL]
    | succ j =>
      have := ih j
      simp only [cellsL] at this
      simp only [cellsL, List.drop_succ_cons, List.flatMap_cons]
      rw [this, show (j + 1) * 6 = (cellsX x).length + j * 6 from by simp [cellsX]; omega, List.drop_length_add_append]
theorem at_end {w : World} {a : Option Addr} {n c : Nat} {l : List Tx} (h : At w (pt a n) (cellsL l)) (j : Nat) (hj : j ≤ n) (hc : n ≤ c) : At w (pt (if c = j then a else a.map fun x => x.add (j * 6)) (n - j)) (cellsL (l.drop j)) := by
  by_cases h0 : n - j = 0
  · rw [show pt _ (n - j) = none from if_pos h0]
    intro g hg
    cases hg
  · rw [show pt a n = a from if_neg (by omega)] at h
    rw [show pt _ (n - j) = _ from if_neg h0, if_neg (by omega), cellsL_drops]
    exact at_drop h _
theorem own_row {w : World} {base : Nat} {e : TypeId} {size : Nat} {v : Value} {n : Nat} {xs : List Value} (h : w.ownsRow base e size v n xs) : ∃ a c, v = .slice a n c ∧ Sl a n c ∧ (∀ ad, a = some ad → base ≤ ad.block) ∧ At w (pt a n) xs := by
  obtain ⟨hl, ⟨rfl, rfl⟩ | ⟨g, cap, cur, rfl, hb, hg, hn, hc, hsz, hx⟩⟩ := h
  · exact ⟨none, 0, rfl, ⟨Nat.le_refl _, Nat.zero_le _, fun _ => ⟨rfl, rfl⟩⟩, fun ad h => (by cases h), fun g hg => (by cases hg)⟩
  · refine ⟨_, cap, rfl, ⟨hn, hc, fun h => (by cases h)⟩, fun ad h => (by cases h; exact hb), ?_⟩
    by_cases h0 : n = 0
    · rw [show pt _ n = none from if_pos h0]
      intro g hg
      cases hg
    · rw [show pt _ n = _ from if_neg h0]
      intro g' hg'
      cases hg'
      refine ⟨_, hg, fun ad had => ?_⟩
      cases had
      refine ⟨rfl, cur, e, _, rfl, fun j u hu => ?_⟩
      have hj : j < n * size := by
        have := (List.getElem?_eq_some_iff.1 hu).1
        omega
      rw [← hx, List.getElem?_take, if_pos hj, Array.getElem?_toList] at hu
      simpa using hu
/-- A call that makes a row, in a region that draws. -/
theorem meetF {P : Program} {W : World} {Q : Ending → World → Prop} {ds : List Deferred} {f : FuncId} {args : List T} {e : TypeId} {size : Nat} {m : M} {k : Value → List Fact → Tree} {l : List Value} (n : Nat) (ys : List Value) (hv : valsOf args = some l) (hc : callable P f = true)
    (hC : ∀ β ρ w, Mem W none m β ρ w → Calls P f (List.toArray l) w fun e' w' => ∃ v, e' = .returned v ∧ Below w.heap.size w w' ∧ w'.ownsRow w.heap.size e size v n ys)
    (h : ∀ a c, Sl a n c → Fresh W none a → (k (.slice a n c) [rowF (pt a n) ys]).wpD P W none Q ds) : (Tree.call f args m k).wpD P W none Q ds :=
  ⟨hc, fun β ρ w vs hm hr => by
    rw [valsOf_spec _ _ _ hv hr]
    refine (hC β ρ w hm).mono fun e' w' ⟨v, he, hb, ho⟩ => ?_
    obtain ⟨a, c, rfl, hsl, hfr, hat⟩ := own_row ho
    have hWw := hm.below.size
    refine ⟨_, [rowF (pt a n) ys], he, hb, ?_, h a c hsl fun ad had => .inl (Nat.le_trans hWw (hfr ad had))⟩
    intro φ hφ g hg
    simp only [List.mem_singleton] at hφ
    subst hφ
    refine ⟨.inr (.inl ?_), hat g hg⟩
    by_cases h0 : n = 0
    · rw [show pt a n = none from if_pos h0] at hg
      cases hg
    · rw [show pt a n = a from if_neg h0] at hg
      cases a with
      | none => cases hg
      | some ad => cases hg; exact hfr ad rfl⟩
theorem suffix {a : Option Addr} {n c : Nat} (hs : Sl a n c) (j : Nat) (hj : j ≤ n) : Sl (if c = j then a else a.map fun x => x.add (j * 6)) (n - j) (c - j) := by
  have h1 := hs.1
  have h2 := hs.2.1
  refine ⟨by omega, by omega, fun ha => ?_⟩
  have h0 : n = 0 ∧ c = 0 := by
    apply hs.2.2
    split at ha
    · exact ha
    · cases a with
      | none => rfl
      | some x => cases ha
  omega
theorem giveP {W : World} {m : M} {β ρ} {w' : World} {a : Option Addr} {xs : List Value} (n : Nat) (hM : Mem W none m β ρ w') (hm : rowF (pt a n) xs ∈ m.facts) (hf : Fresh W none a) :
    ∀ g, (rowF (pt a n) xs).g = some g → W.heap.size ≤ g ∧ ∃ o, w'.heap[g]? = some o ∧ (rowF (pt a n) xs).holds o := fun g hg => by
  refine ⟨?_, hM.at_ hm g hg⟩
  by_cases h : n = 0
  · rw [show pt a n = none from if_pos h] at hg
    cases hg
  · rw [show pt a n = a from if_neg h] at hg
    cases a with
    | none => cases hg
    | some ad =>
      cases hg
      rcases hf ad rfl with h1 | h1
      · exact h1
      · cases h1
/-- The first place of a nonce. -/
theorem srch_shift (p : Int → Bool) : ∀ (l : List Tx) (k : Nat), srch (fun _ m => p m) l k = k + srch (fun _ m => p m) l 0
  | [], k => rfl
  | x :: l, k => by
    show (bif p x.n then k else srch _ l (k + 1)) = k + (bif p x.n then 0 else srch _ l (0 + 1))
    cases p x.n with
    | true => rfl
    | false =>
      simp only [cond_false]
      rw [srch_shift p l (k + 1), srch_shift p l (0 + 1)]
      omega
theorem srch_cons (p : Int → Bool) (x : Tx) (l : List Tx) : srch (fun _ m => p m) (x :: l) 0 = bif p x.n then 0 else srch (fun _ m => p m) l 0 + 1 := by
  show (bif p x.n then 0 else srch _ l (0 + 1)) = _
  rw [srch_shift p l (0 + 1), Nat.add_comm]
theorem putGo_true (is : Bool) (t : Tx) : ∀ l : List Tx, putGo is t l true = l
  | [] => rfl
  | x :: l => by simp [putGo, putGo_true is t l]
theorem putGo_in (t : Tx) : ∀ l : List Tx, srch (fun _ m => m == t.n) l 0 < l.length → putGo true t l false = l.take (srch (fun _ m => m == t.n) l 0) ++ [t] ++ l.drop (srch (fun _ m => m == t.n) l 0 + 1)
  | [], h => by simp at h
  | x :: l, h => by
    rw [srch_cons (fun m => m == t.n)] at h ⊢
    cases e : x.n == t.n with
    | true => simp [putGo, e, putGo_true]
    | false =>
      rw [e] at h
      simp only [cond_false, List.length_cons] at h
      have := putGo_in t l (by omega)
      simp [putGo, e, this]
theorem putGo_out (t : Tx) : ∀ l : List Tx, srch (fun _ m => m == t.n) l 0 = l.length → putGo false t l false = l.take (srch (fun _ m => decide (m > t.n)) l 0) ++ [t] ++ l.drop (srch (fun _ m => decide (m > t.n)) l 0)
  | [], h => by simp [putGo, srch]
  | x :: l, h => by
    rw [srch_cons (fun m => m == t.n)] at h
    rw [srch_cons (fun m => decide (m > t.n))]
    cases e : x.n == t.n with
    | true => rw [e] at h; simp at h
    | false =>
      rw [e] at h
      simp only [cond_false, List.length_cons] at h
      have := putGo_out t l (by omega)
      cases e2 : decide (x.n > t.n) with
      | true => simp [putGo, e, e2, putGo_true]
      | false => simp [putGo, e, e2, this]
theorem putV_in {t : Tx} {l : List Tx} (h : srch (fun _ m => m == t.n) l 0 < l.length) : putV t l = l.take (srch (fun _ m => m == t.n) l 0) ++ [t] ++ l.drop (srch (fun _ m => m == t.n) l 0 + 1) := by
  unfold putV findV
  rw [List.getElem?_eq_getElem h]
  exact putGo_in t l h
theorem putV_out {t : Tx} {l : List Tx} (h : srch (fun _ m => m == t.n) l 0 = l.length) : putV t l = l.take (srch (fun _ m => decide (m > t.n)) l 0) ++ [t] ++ l.drop (srch (fun _ m => decide (m > t.n)) l 0) := by
  unfold putV findV
  rw [List.getElem?_eq_none (by omega)]
  exact putGo_out t l h
set_option maxHeartbeats 4000000 in
set_option maxRecDepth 100000 in
theorem put (s b : Int) (l : List Tx) (a : Option Addr) (n c : Nat) (t : Tx) (w : World) (hs : Sl a n c) (hn : n = l.length) (hrow : At w (pt a n) (cellsL l)) (hl : l.length ≤ 100000) :
    Calls Tryd.prog 33 (List.toArray [acc s b a n c, t.val]) w fun e w' => ∃ i : One, Sl i.1 (putV t l).length i.2 ∧ Gives w w' e (acc s b i.1 (putV t l).length i.2) [rowF (pt i.1 (putV t l).length) (cellsL (putV t l))] := by
  have hle := srch_le (fun _ m => m == t.n) l 0
  have hle2 := srch_le (fun _ m => decide (m > t.n)) l 0
  have hin := putV_in (t := t) (l := l)
  have hout := putV_out (t := t) (l := l)
  have hnc := hs.1
  have hn63 := hs.le
  have H1 := fun w' hr => placeOf l a n c t.n w' hs hn hr
  have H2 := fun w' hr => placeAbove l a n c t.n w' hs hn hr
  generalize srch (fun _ m => m == t.n) l 0 = p at *
  generalize srch (fun _ m => decide (m > t.n)) l 0 = q at *
  refine calls_of_exec env_ok Tryd.func33 rfl [(6, (lineB [0,1,2,3,4,6,7,8,9,5,10,11,12] 13, []))] (by kernel_rfl) [rowF (pt a n) (cellsL l)] (at1 hrow) ?_
  (conv => arg 5; whnf)
  refine meetc rfl (by kernel_rfl) (fun β ρ w' hM' => H1 w' (hM'.at_ List.mem_cons_self)) ?_
  (conv => arg 5; whnf)
  refine wp_must ⟨by omega, by omega⟩ ?_
  (conv => arg 5; whnf)
  refine wp_br (fun h1 => ?_) (fun h1 => ?_)
  · have hpn : p = l.length := by simp at h1; omega
    have hpv := hout hpn
    clear hin hout h1
    (conv => arg 5; whnf)
    refine meetc rfl (by kernel_rfl) (fun β ρ w' hM' => H2 w' (hM'.at_ List.mem_cons_self)) ?_
    (conv => arg 5; whnf)
    refine wp_prim (.slice a q c) (fun w => slice_to a n c q w (by omega)) ?_
    (conv => arg 5; whnf)
    refine wp_prim (.slice (if c = q then a else a.map fun x => x.add (q * 6)) (n - (q)) (c - (q))) (fun w => slice_from a n c (q) w (by omega) (by omega)) ?_
    (conv => arg 5; whnf)
    refine wp_share fun A1 C1 hS1 hF1 => ?_
    (conv => arg 5; whnf)
    refine wp_share fun A2 C2 hS2 hF2 => ?_
    (conv => arg 5; whnf)
    refine meetF (e := 28) (size := 6) (putV t l).length (cellsL (putV t l)) rfl (by kernel_rfl) (fun β ρ w' hM' => ?_) (fun a1 c1 hs1 hf1 => ?_)
    · have hr0 := hM'.at_ (a := pt a n) (xs := cellsL l) (List.mem_cons_of_mem _ (List.mem_cons_of_mem _ List.mem_cons_self))
      have h1 := concat [⟨a, q, c, l.take (q)⟩, ⟨A1, 1, C1, [t]⟩, ⟨if c = q then a else a.map fun x => x.add ((q) * 6), n - (q), c - (q), l.drop (q)⟩] A2 3 C2 w' hS2 rfl (hM'.at_ (List.mem_cons_self)) (by
        intro x hx
        simp only [List.mem_cons, List.not_mem_nil, or_false] at hx
        rcases hx with rfl | rfl | rfl
        · exact ⟨⟨by show q ≤ c; omega, hs.2.1, fun ha => ⟨by have := (hs.2.2 ha).1; show q = 0; omega, (hs.2.2 ha).2⟩⟩, by show q = (l.take (q)).length; rw [List.length_take]; omega, at_begin hr0 (q) (by omega)⟩
        · exact ⟨hS1, rfl, hM'.at_ (List.mem_cons_of_mem _ List.mem_cons_self)⟩
        · exact ⟨suffix hs (q) (by omega), by show n - (q) = (l.drop (q)).length; rw [List.length_drop]; omega, at_end hr0 (q) (by omega) (by omega)⟩) (by simp [flat]; omega)
      rw [show flat _ = putV t l from by rw [hpv]; simp [flat]] at h1
      exact h1
    (conv => arg 5; whnf)
    refine wp_back fun β ρ w' hM' => ⟨(a1, c1), hs1, rfl, hM'.below, ?_⟩
    intro φ hφ
    simp only [List.mem_cons, List.not_mem_nil, or_false] at hφ
    subst hφ
    exact giveP _ hM' List.mem_cons_self hf1
  · have hpn : p < l.length := by simp at h1; omega
    have hpv := hin hpn
    clear hin hout h1
    have hp1 : (p : Int) + 1 = ((p + 1 : Nat) : Int) := by omega
    rw [hp1]
    (conv => arg 5; whnf)
    refine wp_prim (.slice a p c) (fun w => slice_to a n c p w (by omega)) ?_
    (conv => arg 5; whnf)
    refine wp_prim (.slice (if c = (p + 1) then a else a.map fun x => x.add ((p + 1) * 6)) (n - ((p + 1))) (c - ((p + 1)))) (fun w => slice_from a n c ((p + 1)) w (by omega) (by omega)) ?_
    (conv => arg 5; whnf)
    refine wp_share fun A1 C1 hS1 hF1 => ?_
    (conv => arg 5; whnf)
    refine wp_share fun A2 C2 hS2 hF2 => ?_
    (conv => arg 5; whnf)
    refine meetF (e := 28) (size := 6) (putV t l).length (cellsL (putV t l)) rfl (by kernel_rfl) (fun β ρ w' hM' => ?_) (fun a1 c1 hs1 hf1 => ?_)
    · have hr0 := hM'.at_ (a := pt a n) (xs := cellsL l) (List.mem_cons_of_mem _ (List.mem_cons_of_mem _ List.mem_cons_self))
      have h1 := concat [⟨a, p, c, l.take (p)⟩, ⟨A1, 1, C1, [t]⟩, ⟨if c = (p + 1) then a else a.map fun x => x.add (((p + 1)) * 6), n - ((p + 1)), c - ((p + 1)), l.drop ((p + 1))⟩] A2 3 C2 w' hS2 rfl (hM'.at_ (List.mem_cons_self)) (by
        intro x hx
        simp only [List.mem_cons, List.not_mem_nil, or_false] at hx
        rcases hx with rfl | rfl | rfl
        · exact ⟨⟨by show p ≤ c; omega, hs.2.1, fun ha => ⟨by have := (hs.2.2 ha).1; show p = 0; omega, (hs.2.2 ha).2⟩⟩, by show p = (l.take (p)).length; rw [List.length_take]; omega, at_begin hr0 (p) (by omega)⟩
        · exact ⟨hS1, rfl, hM'.at_ (List.mem_cons_of_mem _ List.mem_cons_self)⟩
        · exact ⟨suffix hs ((p + 1)) (by omega), by show n - ((p + 1)) = (l.drop ((p + 1))).length; rw [List.length_drop]; omega, at_end hr0 ((p + 1)) (by omega) (by omega)⟩) (by simp [flat]; omega)
      rw [show flat _ = putV t l from by rw [hpv]; simp [flat]] at h1
      exact h1
    (conv => arg 5; whnf)
    refine wp_back fun β ρ w' hM' => ⟨(a1, c1), hs1, rfl, hM'.below, ?_⟩
    intro φ hφ
    simp only [List.mem_cons, List.not_mem_nil, or_false] at hφ
    subst hφ
    exact giveP _ hM' List.mem_cons_self hf1
end Go.Proofs.YtjejjgoagjkfdaaDoor.queue
