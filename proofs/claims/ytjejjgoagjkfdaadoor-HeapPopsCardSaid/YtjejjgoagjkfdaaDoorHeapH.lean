/- Layer 6 (heap): the document's Push, Worst. -/
import Derived.Test.YtjejjgoagjkfdaaDoorHeapG
namespace Go.Proofs.YtjejjgoagjkfdaaDoor.heap
open Go.RowKit Sx txn queue
set_option linter.unusedVariables false
set_option linter.unusedSimpArgs false
section
variable {P : Program} {W : World} {G : Option Nat} {Q : Ending → World → Prop} {ds : List Deferred}
/-- A row that came in, appended. -/
theorem rowsP {l : List Tx} {a : Option Addr} {n : Nat} {m : M} {K : List Value → Tree} (hn : n = l.length) (hm : rowF (pt a n) (cellsL l) ∈ m.facts) (h : (K (cellsL l)).wpD P W G Q ds) : (Tree.rows a n 6 m K).wpD P W G Q ds := by
  refine ⟨cellsL l, by rw [cellsL_length, hn], cellsL_one l, fun β ρ w' hM' ad had j u hu => ?_, h⟩
  subst had
  have h1 := hM'.at_ hm
  rw [pt_pos (k := 0) (by have := cellsL_pos hu; omega)] at h1
  exact h1.cell hu
/-- One of an own row's transactions, whole. -/
theorem valsX {l : List Tx} {k o : Nat} {K : List Value → Tree} (hk : k < l.length) (ho : o = k * 6) (h : (K (cellsX (nx l k))).wpD P W G Q ds) : (Tree.vals (cellsL l) o 6 K).wpD P W G Q ds :=
  ⟨cellsX (nx l k), rfl, fun j u hu => by rw [ho]; exact cellsL_at (nx_get hk) j u hu, h⟩
end
theorem quoI (x y : Operand) (m : Int) (k : Nat) (e : m = (k : Int)) (hk : k ≤ 1000000000) (w : World) : (do eqGuard .quo 3 x y (.int .i64 m) (.int .i64 2); pure (Next.value (← binOp .quo 3 (.int .i64 m) (.int .i64 2))) : Sem Next).run Tryd.prog w = .ok (.value (.int .i64 ((k / 2 : Nat) : Int))) w := by
  subst e
  exact quo_ x y k hk w
theorem nx_set_self {l : List Tx} {i : Nat} {x : Tx} (h : i < l.length) : nx (l.set i x) i = x := by
  unfold nx
  rw [List.getD_eq_getElem?_getD, List.getElem?_set_self h]
  rfl
theorem nx_set_ne {l : List Tx} {i j : Nat} {x : Tx} (h : i ≠ j) : nx (l.set i x) j = nx l j := by
  unfold nx
  rw [List.getD_eq_getElem?_getD, List.getD_eq_getElem?_getD, List.getElem?_set_ne h]
theorem nx_append {l r : List Tx} {i : Nat} (h : i < l.length) : nx (l ++ r) i = nx l i := by
  unfold nx
  rw [List.getD_eq_getElem?_getD, List.getD_eq_getElem?_getD, List.getElem?_append_left h]
theorem nx_last (l : List Tx) (t : Tx) : nx (l ++ [t]) l.length = t := by
  unfold nx
  simp
theorem own_row {w : World} {base : Nat} {e : TypeId} {size : Nat} {v : Value} {n : Nat} {xs : List Value} (h : w.ownsRow base e size v n xs) : ∃ a c, v = .slice a n c ∧ Sl a n c ∧ (∀ ad, a = some ad → base ≤ ad.block) ∧ At w (pt a n) xs := by
  obtain ⟨hl, ⟨rfl, rfl⟩ | ⟨g, cap, cur, rfl, hb, hg, hn, hc, hsz, hx⟩⟩ := h
  · exact ⟨none, 0, rfl, ⟨Nat.le_refl _, Nat.zero_le _, fun _ => ⟨rfl, rfl⟩⟩, fun ad h => (by cases h), fun g hg => (by cases hg)⟩
  · refine ⟨_, cap, rfl, ⟨hn, hc, fun h => (by cases h)⟩, fun ad h => (by cases h; exact hb), ?_⟩
    by_cases h0 : n = 0
    · rw [show pt _ n = none from if_pos h0]
      intro g hg
      cases hg
    · rw [show pt _ n = _ from if_neg h0]
      intro g' hg'
      cases hg'
      refine ⟨_, hg, fun ad had => ?_⟩
      cases had
      refine ⟨rfl, cur, e, _, rfl, fun j u hu => ?_⟩
      have hj : j < n * size := by
        have := (List.getElem?_eq_some_iff.1 hu).1
        omega
      rw [← hx, List.getElem?_take, if_pos hj, Array.getElem?_toList] at hu
      simpa using hu
theorem gives_of_own {w w' : World} {v : Value} {n : Nat} {xs : List Value} (hb : Below w.heap.size w w') (ho : w'.ownsRow w.heap.size 28 6 v n xs) : ∃ i : One, Sl i.1 n i.2 ∧ Gives w w' (.returned v) (.slice i.1 n i.2) [rowF (pt i.1 n) xs] := by
  obtain ⟨a, c, rfl, hs, hlo, hat⟩ := own_row ho
  refine ⟨(a, c), hs, rfl, hb, ?_⟩
  intro φ hφ g hg
  simp only [List.mem_singleton] at hφ
  subst hφ
  refine ⟨?_, hat g hg⟩
  by_cases h0 : n = 0
  · rw [show rowF (pt a n) xs = rowF none xs by rw [show pt a n = none from if_pos h0]] at hg; cases hg
  · rw [show rowF (pt a n) xs = rowF a xs by rw [show pt a n = a from if_neg h0]] at hg
    cases a with
    | none => cases hg
    | some ad => cases hg; exact hlo ad rfl
set_option maxHeartbeats 4000000 in
set_option maxRecDepth 100000 in
theorem rpush_ (t : Tx) (hdt : t.d.size ≤ maxLen) (l : List Tx) (a : Option Addr) (n c : Nat) (w : World) (hM : Most w) (hs : Sl a n c) (hn : n = l.length) (hl : l.length ≤ 100000) (hd : ∀ x ∈ l, x.d.size ≤ maxLen) (hrow : At w (pt a n) (cellsL l)) :
    Calls Tryd.prog 47 #[.slice a n c, t.val] w fun e w' => ∃ v, e = .returned v ∧ Below w.heap.size w w' ∧ w'.ownsRow w.heap.size 28 6 v (l.length + 1) (cellsL (pushL l t)) := by
  refine calls_of_row env_ok Tryd.func47 rfl [(4, (line [0, 1, 2, 3, 4, 5, 6, 7, 8, 9, 10, 11], []))] (schedQ_ok _ _ (by kernel_rfl)) (n := 4) rfl [.v (.slice a n c), .v t.val] ⟨[], [], [rowF (pt a n) (cellsL l)]⟩ [] (mem_plain _ (at1 hrow)) (Rels.vals [.slice a n c, t.val]) ?_
  (conv => arg 5; whnf)
  refine rowsP (l := l) hn (.head _) ?_
  (conv => arg 5; whnf)
  refine wp_must ⟨by show 0 + n ≤ maxLen; unfold maxLen; omega, by show (0 + n) * 56 ≤ 140737488355328; omega, hs.2.2⟩ ?_
  (conv => arg 5; whnf)
  refine wp_must ⟨by show 0 + n + 1 ≤ maxLen; unfold maxLen; omega, by show (0 + n + 1) * 56 ≤ 140737488355328; omega⟩ ?_
  (conv => arg 5; whnf)
  refine wp_must ⟨by show -9223372036854775808 ≤ ((0 + n + 1 : Nat) : Int) - 1; omega, by show ((0 + n + 1 : Nat) : Int) - 1 ≤ 9223372036854775807; omega⟩ ?_
  have e0 : ((0 + n + 1 : Nat) : Int) - 1 = (n : Int) := by omega
  have e00 : 0 + n + 1 = n + 1 := by omega
  have ecl : [] ++ cellsL l ++ [.int .i64 t.s, .int .i64 t.n, .int .i64 t.t, .int .i64 t.c, .int .i64 t.g, .string t.d] = cellsL (l ++ [t]) := by rw [cellsL_append]; simp [cellsL, cellsX]
  have hp0 : upGo (n + 1) (l ++ [t]) n = pushL l t := by unfold pushL upL; rw [hn]; simp
  have hx0 : nx (l ++ [t]) n = t := by rw [hn]; exact nx_last l t
  (conv => arg 5; whnf)
  refine loop_rule env_ok [(4, (line [0, 1, 2, 3, 4, 5, 6, 7, 8, 9, 10, 11], []))] (schedQ_ok _ _ (by kernel_rfl)) (fun q : List Tx × Nat => q.1.length = n + 1 ∧ q.2 < n + 1 ∧ nx q.1 q.2 = t ∧ (∀ x ∈ q.1, x.d.size ≤ maxLen) ∧ upGo (q.2 + 1) q.1 q.2 = pushL l t) (fun q => (⟨[some ([.v (.int .i64 t.s), .v (.int .i64 t.n), .v (.int .i64 t.t), .v (.int .i64 t.c), .v (.int .i64 t.g), .v (.string t.d)], 28)], [some ⟨28, 6, n + 1, cellsL q.1⟩], [rowF (pt a n) (cellsL l)]⟩, sl 48 [(3, .p 0 0), (5, .r 0), (6, .v (.int .i64 q.2))])) (fun q => q.2) (l ++ [t], n) ⟨by simp; omega, by show n < n + 1; omega, hx0, fun x hx => by rcases List.mem_append.1 hx with hx | hx; exact hd x hx; (simp only [List.mem_singleton] at hx; subst hx; exact hdt), hp0⟩ (by (try rw [e0]); exact ⟨by repeat' first | exact trivial | refine ⟨.inl rfl, ?_⟩ | refine ⟨.inr rfl, ?_⟩ | refine ⟨.inr (congrArg (fun z => T.v (.int .i64 z)) e0), ?_⟩, ⟨by repeat' first | exact trivial | refine ⟨.inl rfl, ?_⟩ | refine ⟨.inr rfl, ?_⟩, ⟨.inr (by show some (Row.mk _ _ (0 + n + 1) ([] ++ cellsL l ++ [.int .i64 t.s, .int .i64 t.n, .int .i64 t.t, .int .i64 t.c, .int .i64 t.g, .string t.d])) = some (Row.mk _ _ (n + 1) (cellsL (l ++ [t]))); rw [ecl, e00]), trivial⟩, fun _ h => h⟩, rfl⟩) ?_
  rintro ⟨cur, i⟩ ⟨hlen, hi, hxi, hdc, hup⟩
  have hlen : cur.length = n + 1 := hlen
  have hi : i < n + 1 := hi
  have hxi : nx cur i = t := hxi
  have hdc : ∀ x ∈ cur, x.d.size ≤ maxLen := hdc
  have hup : upGo (i + 1) cur i = pushL l t := hup
  (conv => arg 5; whnf)
  refine wp_g1 (fun h1 => ?_) (fun h1 => ?_)
  · have hpos : 0 < i := by have h2 := of_decide_eq_true (show decide ((i : Int) > 0) = true from h1); omega
    have ek : (i : Int) - 1 = ((i - 1 : Nat) : Int) := by omega
    have hS := upGo_stop cur i
    have hT := upGo_step cur i hpos
    rw [hxi] at hS hT
    (conv => arg 5; whnf)
    refine wp_must ⟨by show -9223372036854775808 ≤ (i : Int) - 1; omega, by show (i : Int) - 1 ≤ 9223372036854775807; omega⟩ ?_
    (try show Tree.wpD _ _ _ _ _ _)
    (conv => arg 5; whnf)
    refine wp_prim (.int .i64 (((i - 1) / 2 : Nat) : Int)) (fun w => quoI _ _ _ (i - 1) ek (by omega) w) ?_
    (conv => arg 5; whnf)
    refine wp_must ⟨by omega, by show (((i - 1) / 2 : Nat) : Int) < ((n + 1 : Nat) : Int); omega⟩ ?_
    (conv => arg 5; whnf)
    refine valsX (l := cur) (k := (i - 1) / 2) (by omega) rfl ?_
    (conv => arg 5; whnf)
    refine meetc (v := .bool (betterV t (nx cur ((i - 1) / 2)))) rfl (by kernel_rfl) (fun β ρ w' hM' => rbetter t (nx cur ((i - 1) / 2)) w' (hM.later hM'.below) hdt (hdc _ (nx_mem (by omega)))) ?_
    (conv => arg 5; whnf)
    refine wp_br (fun h2 => ?_) (fun h2 => ?_)
    · have hcell : spl (spl (cellsL cur) (i * 6) (cellsX (nx cur ((i - 1) / 2)))) ((i - 1) / 2 * 6) (cellsX t) = cellsL (swp cur i ((i - 1) / 2)) := by
        rw [set_cells _ _ _ (by omega), set_cells _ _ _ (by simp; omega)]
        unfold swp
        rw [hxi]
      (conv => arg 5; whnf)
      refine wp_must ⟨by show -9223372036854775808 ≤ (i : Int) - 1; omega, by show (i : Int) - 1 ≤ 9223372036854775807; omega⟩ ?_
      (conv => arg 5; whnf)
      refine wp_prim (.int .i64 (((i - 1) / 2 : Nat) : Int)) (fun w => quoI _ _ _ (i - 1) ek (by omega) w) ?_
      (conv => arg 5; whnf)
      refine wp_must ⟨by omega, by show (((i - 1) / 2 : Nat) : Int) < ((n + 1 : Nat) : Int); omega⟩ ?_
      (conv => arg 5; whnf)
      refine valsX (l := cur) (k := (i - 1) / 2) (by omega) rfl ?_
      (conv => arg 5; whnf)
      refine wp_must ⟨by omega, by show (i : Int) < ((n + 1 : Nat) : Int); omega⟩ ?_
      (conv => arg 5; whnf)
      refine wp_must (by show i * 6 + 6 ≤ (cellsL cur).length; rw [cellsL_length]; omega) ?_
      (conv => arg 5; whnf)
      refine wp_must ⟨by show -9223372036854775808 ≤ (i : Int) - 1; omega, by show (i : Int) - 1 ≤ 9223372036854775807; omega⟩ ?_
      (conv => arg 5; whnf)
      refine wp_prim (.int .i64 (((i - 1) / 2 : Nat) : Int)) (fun w => quoI _ _ _ (i - 1) ek (by omega) w) ?_
      (conv => arg 5; whnf)
      refine wp_must ⟨by omega, by show (((i - 1) / 2 : Nat) : Int) < ((n + 1 : Nat) : Int); omega⟩ ?_
      (conv => arg 5; whnf)
      refine wp_must (by show (i - 1) / 2 * 6 + 6 ≤ (spl (cellsL cur) (i * 6) (cellsX (nx cur ((i - 1) / 2)))).length; rw [set_cells _ _ _ (by omega), cellsL_length]; simp; omega) ?_
      (conv => arg 5; whnf)
      refine wp_must ⟨by show -9223372036854775808 ≤ (i : Int) - 1; omega, by show (i : Int) - 1 ≤ 9223372036854775807; omega⟩ ?_
      (conv => arg 5; whnf)
      refine wp_prim (.int .i64 (((i - 1) / 2 : Nat) : Int)) (fun w => quoI _ _ _ (i - 1) ek (by omega) w) ?_
      (conv => arg 5; whnf)
      refine wp_end ⟨(swp cur i ((i - 1) / 2), (i - 1) / 2), ⟨by rw [swp_length]; exact hlen, by show (i - 1) / 2 < n + 1; omega, by show nx (swp cur i ((i - 1) / 2)) ((i - 1) / 2) = t; unfold swp; rw [nx_set_self (by simp; omega)]; exact hxi, fun x hx => hdc x (swp_mem (by omega) (by omega) x hx), by rw [← hup]; exact (hT h2).symm⟩, ⟨by repeat' first | exact trivial | refine ⟨.inl rfl, ?_⟩ | refine ⟨.inr rfl, ?_⟩, ⟨by repeat' first | exact trivial | refine ⟨.inl rfl, ?_⟩ | refine ⟨.inr rfl, ?_⟩, ⟨.inr (congrArg (fun z => some (Row.mk 28 6 (n + 1) z)) hcell), trivial⟩, fun _ h => h⟩, rfl⟩, by show (i - 1) / 2 < i; omega⟩
    · (conv => arg 5; whnf)
      refine wp_end (fun β ρ w' v hM' hv => ⟨v, rfl, hM'.below, ?_⟩)
      have := hM'.mine (i := 0) (r := ⟨28, 6, n + 1, cellsL cur⟩) rfl hv
      rw [← hup, hS (.inr h2), ← hn]
      exact this
  · have hi0 : i = 0 := by have h2 := of_decide_eq_false (show decide ((i : Int) > 0) = false from h1); omega
    (conv => arg 5; whnf)
    refine wp_end (fun β ρ w' v hM' hv => ⟨v, rfl, hM'.below, ?_⟩)
    have := hM'.mine (i := 0) (r := ⟨28, 6, n + 1, cellsL cur⟩) rfl hv
    rw [← hup, upGo_stop cur i (.inl hi0), ← hn]
    exact this
end Go.Proofs.YtjejjgoagjkfdaaDoor.heap
