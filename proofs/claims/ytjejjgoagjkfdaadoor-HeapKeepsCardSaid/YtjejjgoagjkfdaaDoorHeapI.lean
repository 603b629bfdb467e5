/- Layer 6 (heap): the document's Pop. -/
import Derived.Test.YtjejjgoagjkfdaaDoorHeapH
namespace Go.Proofs.YtjejjgoagjkfdaaDoor.heap
open Go.RowKit Sx txn queue
set_option linter.unusedVariables false
set_option linter.unusedSimpArgs false
section
variable {P : Program} {W : World} {G : Option Nat} {Q : Ending → World → Prop} {ds : List Deferred}
/-- The beginning of a row that came in, appended. -/
theorem rowsT {l : List Tx} {a : Option Addr} {n j : Nat} {m : M} {K : List Value → Tree} (hn : n = l.length) (hj : j ≤ n) (hm : rowF (pt a n) (cellsL l) ∈ m.facts) (h : (K (cellsL (l.take j))).wpD P W G Q ds) : (Tree.rows a j 6 m K).wpD P W G Q ds := by
  refine ⟨cellsL (l.take j), by rw [cellsL_length, List.length_take]; congr 1; omega, cellsL_one _, fun β ρ w' hM' ad had j' u hu => ?_, h⟩
  subst had
  have h1 := at_begin (hM'.at_ hm) j hj
  rw [pt_pos (k := 0) (by have := cellsL_pos hu; rw [List.length_take] at this; omega)] at h1
  exact h1.cell hu
/-- A call to which an own row is lent, and a number. -/
theorem meetLend {f : FuncId} {i : Nat} {u : Value} {m : M} {k : Value → List Fact → Tree} {r : Row} (v : Value) (hi : m.rows[i]? = some (some r)) (hc : callable P f = true)
    (hC : ∀ β ρ w a c, Mem W G m β ρ w → Sl a r.n c → At w (pt a r.n) r.xs → Calls P f (List.toArray [.slice a r.n c, u]) w fun e w' => e = .returned v ∧ Below w.heap.size w w') (h : (k v []).wpD P W G Q ds) : (Tree.call f [.r i, .v u] m k).wpD P W G Q ds := by
  refine ⟨hc, fun β ρ w vs hm hr => ?_⟩
  obtain ⟨y1, y2, rfl, h1, h2⟩ := hr.two
  have h1 : ρ[i]? = some y1 := h1
  have h2 : y2 = u := h2
  subst h2
  obtain ⟨a, c, rfl, hs, hat⟩ := hm.at_own hi h1
  refine (hC β ρ w a c hm hs ?_).mono fun e w' ⟨he, hb⟩ => ⟨v, [], he, hb, fun φ hφ => (by cases hφ), h⟩
  by_cases h0 : r.n = 0
  · rw [show pt a r.n = none from if_pos h0]; exact fun g hg => by cases hg
  · rw [show pt a r.n = a from if_neg h0]; exact hat
end
theorem gave {W : World} {m : M} {β ρ} {w' : World} {u : Option Addr} {xs : List Value} (n : Nat) (hM : Mem W none m β ρ w') (hm : rowF u xs ∈ m.facts) (hf : Fresh W none u) : ∀ φ ∈ [rowF (pt u n) xs], ∀ g, φ.g = some g → W.heap.size ≤ g ∧ ∃ o, w'.heap[g]? = some o ∧ φ.holds o := by
  intro φ hφ g hg
  simp only [List.mem_singleton] at hφ
  subst hφ
  by_cases h0 : n = 0
  · rw [show rowF (pt u n) xs = rowF none xs by rw [show pt u n = none from if_pos h0]] at hg; cases hg
  · rw [show rowF (pt u n) xs = rowF u xs by rw [show pt u n = u from if_neg h0]] at hg ⊢
    refine ⟨?_, hM.at_ hm g hg⟩
    cases u with
    | none => cases hg
    | some ad =>
      cases hg
      rcases hf ad rfl with h | h
      · exact h
      · cases h
theorem below_best (l : List Tx) (i : Nat) (hi : i < l.length) : (belowI l i = -1 ∧ bestV l i = i) ∨ ∃ k : Nat, belowI l i = (k : Int) ∧ i < k ∧ k < l.length ∧ (betterV (nx l k) (nx l i) = true → bestV l i = k) ∧ (betterV (nx l k) (nx l i) = false → bestV l i = i) := by
  unfold belowI
  by_cases h1 : l.length ≤ 2 * i + 1
  · rw [if_pos h1]
    refine .inl ⟨rfl, ?_⟩
    unfold bestV best1
    rw [if_neg (fun h => by omega), if_neg (fun h => by omega)]
  · rw [if_neg h1]
    by_cases h2 : 2 * i + 2 < l.length ∧ betterV (nx l (2 * i + 2)) (nx l (2 * i + 1)) = true
    · rw [if_pos h2]
      refine .inr ⟨2 * i + 2, by omega, by omega, h2.1, fun hb => ?_, fun hb => ?_⟩
      · unfold bestV best1
        by_cases h3 : betterV (nx l (2 * i + 1)) (nx l i) = true
        · rw [if_pos (show 2 * i + 1 < l.length ∧ _ from ⟨by omega, h3⟩), if_pos h2]
        · rw [if_neg (show ¬(2 * i + 1 < l.length ∧ _) from fun h => h3 h.2), if_pos ⟨h2.1, hb⟩]
      · have h3 : ¬ betterV (nx l (2 * i + 1)) (nx l i) = true := by
          intro h3
          have := ord.better_trans _ _ _ h2.2 h3
          rw [hb] at this
          cases this
        unfold bestV best1
        rw [if_neg (show ¬(2 * i + 1 < l.length ∧ _) from fun h => h3 h.2), if_neg (fun h => by rw [hb] at h; cases h.2)]
    · rw [if_neg h2]
      refine .inr ⟨2 * i + 1, by omega, by omega, by omega, fun hb => ?_, fun hb => ?_⟩
      · unfold bestV best1
        rw [if_pos (show 2 * i + 1 < l.length ∧ _ from ⟨by omega, hb⟩), if_neg h2]
      · unfold bestV best1
        rw [if_neg (show ¬(2 * i + 1 < l.length ∧ _) from fun h => by rw [hb] at h; cases h.2)]
        rw [if_neg]
        rintro ⟨h3, h4⟩
        rcases ord.better_or _ (nx l (2 * i + 1)) _ h4 with h5 | h5
        · exact h2 ⟨h3, h5⟩
        · rw [hb] at h5; cases h5
theorem swp_take {l : List Tx} {k i j : Nat} (hi : i < k) (hj : j < k) : (swp l i j).take k = swp (l.take k) i j := by
  unfold swp
  rw [nx_take hi, nx_take hj, List.take_set, List.take_set]
theorem downGo_take : ∀ (f k : Nat) (l : List Tx) (i : Nat), k ≤ l.length → (i < k ∨ (i = 0 ∧ k = 0)) → (downGo f k l i).take k = downGo f k (l.take k) i
  | 0, k, l, i, _, _ => rfl
  | f + 1, k, l, i, hk, hi => by
    unfold downGo
    rw [List.take_take, Nat.min_self]
    split
    · rfl
    · rename_i hne
      have hc := (bestV_cases (l.take k) i).resolve_left hne
      have hlen : (l.take k).length = k := by rw [List.length_take]; omega
      rw [downGo_take f k _ _ (by rw [swp_length]; exact hk) (.inl (by omega)), swp_take (by omega) (by omega)]
theorem popL_eq (l : List Tx) (h : 2 ≤ l.length) : popL l = downGo (l.length - 1) (l.length - 1) ((l.take (l.length - 1)).set 0 (nx l (l.length - 1))) 0 := by
  unfold popL cutL downL
  rw [downGo_take _ _ _ _ (by simp) (.inl (by omega)), List.take_set]
set_option maxHeartbeats 4000000 in
set_option maxRecDepth 100000 in
theorem rpop_zero (a : Option Addr) (c : Nat) (w : World) : Calls Tryd.prog 41 (List.toArray [.slice a 0 c]) w fun e w' => e = .returned (.tuple #[.slice none 0 0, tx0.val, .bool false]) ∧ Below w.heap.size w w' := by
  refine calls_of_exec env_ok.keeps Tryd.func41 rfl [(5, (line [0, 1, 2, 3, 4, 5, 6], [0])), (10, (line [0, 1, 2, 3, 4, 5, 6, 7, 8, 9, 10], [])), (11, (line [0, 1, 2, 3, 4, 5, 6], [0]))] (schedQ_ok _ _ (by kernel_rfl)) [] (by simp) ?_
  (conv => arg 5; whnf)
  exact wp_back fun β ρ w' hM' => ⟨rfl, hM'.below⟩
set_option maxHeartbeats 4000000 in
set_option maxRecDepth 100000 in
theorem rpop_ (l : List Tx) (a : Option Addr) (n c : Nat) (w : World) (hM : Most w) (hs : Sl a n c) (hn : n = l.length) (hl : l.length ≤ 100000) (hd : ∀ x ∈ l, x.d.size ≤ maxLen) (hrow : At w (pt a n) (cellsL l)) (h1 : 1 ≤ n) :
    Calls Tryd.prog 41 (List.toArray [.slice a n c]) w fun e w' => ∃ i : One, Sl i.1 (n - 1) i.2 ∧ Gives w w' e (.tuple #[.slice i.1 (n - 1) i.2, (nx l 0).val, .bool true]) [rowF (pt i.1 (n - 1)) (cellsL (popL l))] := by
  have hn63 := hs.le
  have hsc := hs.1
  have ek : (n : Int) - 1 = ((n - 1 : Nat) : Int) := by omega
  have h0 : 0 < n := by omega
  have hlast : n - 1 < n := by omega
  have hpl := popL_length l
  refine calls_of_exec env_ok Tryd.func41 rfl [(5, (line [0, 1, 2, 3, 4, 5, 6], [0])), (10, (line [0, 1, 2, 3, 4, 5, 6, 7, 8, 9, 10], [])), (11, (line [0, 1, 2, 3, 4, 5, 6], [0]))] (schedQ_ok _ _ (by kernel_rfl)) [rowF (pt a n) (cellsL l)] (at1 hrow) ?_
  (conv => arg 5; whnf)
  refine wp_br (fun h => by simp at h; omega) (fun _ => ?_)
  (conv => arg 5; whnf)
  refine wp_must ⟨by omega, by omega⟩ ?_
  rw [ek]
  (conv => arg 5; whnf)
  refine wp_prim (.slice a (n - 1) c) (fun w => slice_to a n c (n - 1) w (by omega)) ?_
  (conv => arg 5; whnf)
  refine rowsT (l := l) (j := n - 1) hn (by omega) (.head _) ?_
  (conv => arg 5; whnf)
  refine wp_must ⟨by show 0 + (n - 1) ≤ maxLen; unfold maxLen; omega, by show (0 + (n - 1)) * 56 ≤ 140737488355328; omega, fun h => ⟨by have := (hs.2.2 h).1; omega, (hs.2.2 h).2⟩⟩ ?_
  (conv => arg 5; whnf)
  refine wp_br (fun h2 => ?_) (fun h2 => ?_)
  · have hn1 : n = 1 := by have h3 : (((0 + (n - 1) : Nat) : Int) == 0) = true := h2; simp at h3; omega
    have hp0 : popL l = [] := List.eq_nil_of_length_eq_zero (by omega)
    (conv => arg 5; whnf)
    refine wp_must ⟨by omega, by omega, hs.some h0⟩ ?_
    (conv => arg 5; whnf)
    refine readX (l := l) (k := 0) rfl (.head _) h0 (hs.some h0) (nx_get (by omega)) rfl ?_
    (conv => arg 5; whnf)
    refine wp_share fun u c_u h_u f_u => ?_
    have h_u : Sl u (0 + (n - 1)) c_u := h_u
    have e01 : 0 + (n - 1) = n - 1 := by omega
    rw [e01] at h_u
    (conv => arg 5; whnf)
    refine wp_back fun β ρ w' hM' => ⟨(u, c_u), h_u, ?_, hM'.below, ?_⟩
    · show Ending.returned (.tuple #[.slice u (0 + (n - 1)) c_u, (nx l 0).val, .bool true]) = _
      rw [e01]
    · rw [hp0, show pt u (n - 1) = none from if_pos (by omega)]
      intro φ hφ g hg
      simp only [List.mem_singleton] at hφ
      subst hφ
      cases hg
  · have hn2 : 2 ≤ n := by
      have h3 : (((0 + (n - 1) : Nat) : Int) == 0) = false := h2
      simp at h3
      omega
    have hpe := popL_eq l (by omega)
    rw [← hn] at hpe
    have hN : (l.take (n - 1)).length = n - 1 := by rw [List.length_take]; omega
    have hdt := hd _ (nx_mem (l := l) (i := n - 1) (by omega))
    have hxl := nx_get (l := l) (i := n - 1) (by omega)
    generalize hT : nx l (n - 1) = t at *
    (conv => arg 5; whnf)
    refine wp_must ⟨by omega, by omega⟩ ?_
    rw [ek]
    (conv => arg 5; whnf)
    refine wp_must ⟨by omega, by omega, hs.some hlast⟩ ?_
    (conv => arg 5; whnf)
    refine readX (l := l) (k := n - 1) rfl (.head _) hlast (hs.some hlast) hxl rfl ?_
    (conv => arg 5; whnf)
    refine wp_must ⟨by omega, by show (0 : Int) < ((0 + (n - 1) : Nat) : Int); omega⟩ ?_
    (conv => arg 5; whnf)
    refine wp_must (by show 0 + 6 ≤ ([] ++ cellsL (l.take (n - 1))).length; rw [List.nil_append, cellsL_length]; omega) ?_
    have e01 : 0 + (n - 1) = n - 1 := by omega
    have ecl : spl ([] ++ cellsL (l.take (n - 1))) 0 (cellsX t) = cellsL ((l.take (n - 1)).set 0 t) := by
      rw [List.nil_append]
      have := set_cells (l.take (n - 1)) 0 t (by omega)
      rwa [Nat.zero_mul] at this
    (conv => arg 5; whnf)
    refine loop_rule env_ok [(5, (line [0, 1, 2, 3, 4, 5, 6], [0])), (10, (line [0, 1, 2, 3, 4, 5, 6, 7, 8, 9, 10], [])), (11, (line [0, 1, 2, 3, 4, 5, 6], [0]))] (schedQ_ok _ _ (by kernel_rfl)) (fun q : List Tx × Nat => q.1.length = n - 1 ∧ q.2 < n - 1 ∧ nx q.1 q.2 = t ∧ (∀ x ∈ q.1, x.d.size ≤ maxLen) ∧ downGo (n - 1 - q.2) (n - 1) q.1 q.2 = popL l) (fun q => (⟨[some ([.v (.int .i64 0), .v (.int .i64 0), .v (.int .i64 0), .v (.int .i64 0), .v (.int .i64 0), .v (.string ByteArray.empty)], 28), some ([.v (.int .i64 t.s), .v (.int .i64 t.n), .v (.int .i64 t.t), .v (.int .i64 t.c), .v (.int .i64 t.g), .v (.string t.d)], 28)], [some ⟨28, 6, n - 1, cellsL q.1⟩], [rowF (pt a n) (cellsL l)]⟩, sl 66 [(0, .v (.slice a n c)), (3, .p 0 0), (5, .r 0), (6, .p 1 0), (7, .v (.int .i64 q.2))])) (fun q => n - q.2) ((l.take (n - 1)).set 0 t, 0) ⟨by simp; omega, by show 0 < n - 1; omega, nx_set_self (by omega), fun x hx => by rcases List.mem_or_eq_of_mem_set hx with hx | rfl; exact hd x (List.mem_of_mem_take hx); exact hdt, hpe.symm⟩ ⟨by repeat' first | exact trivial | refine ⟨.inl rfl, ?_⟩ | refine ⟨.inr rfl, ?_⟩, ⟨by repeat' first | exact trivial | refine ⟨.inl rfl, ?_⟩ | refine ⟨.inr rfl, ?_⟩, ⟨.inr (by show some (Row.mk _ _ (0 + (n - 1)) (spl ([] ++ cellsL (l.take (n - 1))) 0 (cellsX t))) = some (Row.mk _ _ (n - 1) (cellsL ((l.take (n - 1)).set 0 t))); rw [ecl, e01]), trivial⟩, fun _ h => h⟩, rfl⟩ ?_
    rintro ⟨cur, i⟩ ⟨hlen, hi, hxi, hdc, hup⟩
    have hlen : cur.length = n - 1 := hlen
    have hi : i < n - 1 := hi
    have hxi : nx cur i = t := hxi
    have hdc : ∀ x ∈ cur, x.d.size ≤ maxLen := hdc
    have hup : downGo (n - 1 - i) (n - 1) cur i = popL l := hup
    have htk : cur.take (n - 1) = cur := List.take_of_length_le (by omega)
    have S1 := downGo_stop (n - 1) cur i
    have S2 := downGo_step (n - 1) cur i
    rw [htk] at S1 S2
    have BB := below_best cur i (by omega)
    rw [hxi] at BB
    (conv => arg 5; whnf)
    refine meetLend (r := ⟨28, 6, n - 1, cellsL cur⟩) (.int .i64 (belowI cur i)) rfl (by kernel_rfl) (fun β ρ w' a' c' hM' hs' hat => rbelow_ i (by omega) cur a' (n - 1) c' w' (hM.later hM'.below) hs' hlen.symm (by omega) hdc hat) ?_
    rcases BB with ⟨hb, hbv⟩ | ⟨k, hb, hik, hkl, hyes, hno⟩
    · rw [hb]
      (conv => arg 5; whnf)
      refine wp_must ⟨by omega, by omega, hs.some h0⟩ ?_
      (conv => arg 5; whnf)
      refine readX (l := l) (k := 0) rfl (.head _) h0 (hs.some h0) (nx_get (by omega)) rfl ?_
      (conv => arg 5; whnf)
      refine wp_share fun u c_u h_u f_u => ?_
      have h_u : Sl u (n - 1) c_u := h_u
      (conv => arg 5; whnf)
      refine wp_back fun β ρ w' hM' => ⟨(u, c_u), h_u, rfl, hM'.below, ?_⟩
      rw [← hup, S1 (hbv)]
      exact gave (n - 1) hM' (.head _) f_u
    · rw [hb]
      have hkn : k < n - 1 := by omega
      have hdk := hdc _ (nx_mem (l := cur) (i := k) (by omega))
      (conv => arg 5; whnf)
      refine wp_must ⟨by omega, by show (k : Int) < ((n - 1 : Nat) : Int); omega⟩ ?_
      (conv => arg 5; whnf)
      refine valsX (l := cur) (k := k) (by omega) rfl ?_
      (conv => arg 5; whnf)
      refine meetc (v := .bool (betterV (nx cur k) t)) rfl (by kernel_rfl) (fun β ρ w' hM' => rbetter (nx cur k) t w' (hM.later hM'.below) hdk hdt) ?_
      (conv => arg 5; whnf)
      refine wp_br (fun h3 => ?_) (fun h3 => ?_)
      · have h3 : betterV (nx cur k) t = false := by simpa using h3
        (conv => arg 5; whnf)
        refine wp_must ⟨by omega, by omega, hs.some h0⟩ ?_
        (conv => arg 5; whnf)
        refine readX (l := l) (k := 0) rfl (.head _) h0 (hs.some h0) (nx_get (by omega)) rfl ?_
        (conv => arg 5; whnf)
        refine wp_share fun u c_u h_u f_u => ?_
        have h_u : Sl u (n - 1) c_u := h_u
        (conv => arg 5; whnf)
        refine wp_back fun β ρ w' hM' => ⟨(u, c_u), h_u, rfl, hM'.below, ?_⟩
        rw [← hup, S1 (hno h3)]
        exact gave (n - 1) hM' (.head _) f_u
      · have h3 : betterV (nx cur k) t = true := by simpa using h3
        have hst := S2 (by rw [hyes h3]; omega)
        rw [hyes h3] at hst
        have hcell : spl (spl (cellsL cur) (i * 6) (cellsX (nx cur k))) (k * 6) (cellsX t) = cellsL (swp cur i k) := by
          rw [set_cells _ _ _ (by omega), set_cells _ _ _ (by simp; omega)]
          unfold swp
          rw [hxi]
        (conv => arg 5; whnf)
        refine wp_must ⟨by omega, by show (k : Int) < ((n - 1 : Nat) : Int); omega⟩ ?_
        (conv => arg 5; whnf)
        refine valsX (l := cur) (k := k) (by omega) rfl ?_
        (conv => arg 5; whnf)
        refine wp_must ⟨by omega, by show (i : Int) < ((n - 1 : Nat) : Int); omega⟩ ?_
        (conv => arg 5; whnf)
        refine wp_must (by show i * 6 + 6 ≤ (cellsL cur).length; rw [cellsL_length]; omega) ?_
        (conv => arg 5; whnf)
        refine wp_must ⟨by omega, by show (k : Int) < ((n - 1 : Nat) : Int); omega⟩ ?_
        (conv => arg 5; whnf)
        refine wp_must (by show k * 6 + 6 ≤ (spl (cellsL cur) (i * 6) (cellsX (nx cur k))).length; rw [set_cells _ _ _ (by omega), cellsL_length]; simp; omega) ?_
        (conv => arg 5; whnf)
        refine wp_end ⟨(swp cur i k, k), ⟨by rw [swp_length]; exact hlen, by show k < n - 1; omega, by show nx (swp cur i k) k = t; unfold swp; rw [nx_set_self (by simp; omega)]; exact hxi, fun x hx => hdc x (swp_mem (by omega) (by omega) x hx), by rw [← hup]; exact hst.symm⟩, ⟨by repeat' first | exact trivial | refine ⟨.inl rfl, ?_⟩ | refine ⟨.inr rfl, ?_⟩, ⟨by repeat' first | exact trivial | refine ⟨.inl rfl, ?_⟩ | refine ⟨.inr rfl, ?_⟩, ⟨.inr (congrArg (fun z => some (Row.mk 28 6 (n - 1) z)) hcell), trivial⟩, fun _ h => h⟩, rfl⟩, by show n - k < n - i; omega⟩
end Go.Proofs.YtjejjgoagjkfdaaDoor.heap
