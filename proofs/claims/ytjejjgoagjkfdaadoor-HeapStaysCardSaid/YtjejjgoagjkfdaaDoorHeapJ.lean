/- Layer 6 (heap): the document's Make, Order, Worst. -/
import Derived.Test.YtjejjgoagjkfdaaDoorHeapI
namespace Go.Proofs.YtjejjgoagjkfdaaDoor.heap
open Go.RowKit Sx txn queue
set_option linter.unusedVariables false
set_option linter.unusedSimpArgs false
section
variable {P : Program} {W : World} {G : Option Nat} {Q : Ending → World → Prop} {ds : List Deferred}
/-- A call that answers with a row of its own making. -/
theorem meet1F {f : FuncId} {args : List Sx.T} {l : List Value} {m : M} {k : Value → List Fact → Tree} {n : Nat} {v : Option Addr → Nat → Value} {xs : List Value} (hv : valsOf args = some l) (hc : callable P f = true)
    (hC : ∀ β ρ w, Mem W G m β ρ w → Calls P f (List.toArray l) w fun e w' => ∃ i : One, Sl i.1 n i.2 ∧ Gives w w' e (v i.1 i.2) [rowF (pt i.1 n) xs]) (h : ∀ a c, Sl a n c → (∀ g, (rowF (pt a n) xs).g = some g → W.heap.size ≤ g) → (k (v a c) [rowF (pt a n) xs]).wpD P W G Q ds) : (Tree.call f args m k).wpD P W G Q ds :=
  meetR (ι := One) (ok := fun i => Sl i.1 n i.2 ∧ ∀ g, (rowF (pt i.1 n) xs).g = some g → W.heap.size ≤ g) (v := fun i => v i.1 i.2) (fs := fun i => [rowF (pt i.1 n) xs]) hc (fun β ρ w vs hm hr => by
    rw [valsOf_spec _ _ _ hv hr]
    refine (hC β ρ w hm).mono fun e w' ⟨i, hi, hg⟩ => ⟨i, ⟨hi, fun g hgg => Nat.le_trans hm.grown.size (hg.2.2 _ List.mem_cons_self g hgg).1⟩, hg⟩) (fun i hi => h i.1 i.2 hi.1 hi.2)
end
section
variable {P : Program} {W : World} {G : Option Nat} {Q : Ending → World → Prop} {ds : List Deferred}
/-- Something known of no block may be known, too. -/
theorem loop_learn {body : Code} {m : M} {t : List T} {k : Exit → M → List T → Tree} (φ : Fact) (hφ : ∀ g, φ.g = some g → False) (h : (Tree.loop body (m.learn [φ]) t k).wpD P W G Q ds) : (Tree.loop body m t k).wpD P W G Q ds := by
  intro β ρ a w hm hr hdf
  exact h β ρ a w (hm.learn [φ] fun ψ hψ g hg => by simp only [List.mem_singleton] at hψ; subst hψ; exact (hφ g hg).elim) hr hdf
end
/-- Pushed one by one. -/
def rmk (l : List Tx) : Nat → List Tx
  | 0 => []
  | k + 1 => pushL (rmk l k) (nx l k)
theorem rmk_length (l : List Tx) : ∀ k, (rmk l k).length = k
  | 0 => rfl
  | k + 1 => by unfold rmk; rw [pushL_length, rmk_length l k]
theorem rmk_mem (l : List Tx) : ∀ k, k ≤ l.length → ∀ x ∈ rmk l k, x ∈ l
  | 0, _, x, hx => by simp [rmk] at hx
  | k + 1, hk, x, hx => by
    unfold rmk at hx
    rcases List.mem_append.1 (pushL_mem x hx) with h | h
    · exact rmk_mem l k (by omega) x h
    · simp only [List.mem_singleton] at h; subst h; exact nx_mem (by omega)
theorem upGo_prefix : ∀ (f : Nat) (a b : List Tx) (i : Nat), i < a.length → upGo f (a ++ b) i = upGo f a i ++ b
  | 0, a, b, i, _ => rfl
  | f + 1, a, b, i, hi => by
    unfold upGo
    rw [nx_append hi, nx_append (show (i - 1) / 2 < a.length by omega)]
    split
    · rfl
    · split
      · have e : swp (a ++ b) i ((i - 1) / 2) = swp a i ((i - 1) / 2) ++ b := by
          unfold swp
          rw [nx_append hi, nx_append (show (i - 1) / 2 < a.length by omega), List.set_append_left _ _ hi, List.set_append_left _ _ (by simp; omega)]
        rw [e, upGo_prefix f _ _ _ (by rw [swp_length]; omega)]
      · rfl
theorem makeTo_rmk (l : List Tx) : ∀ k, k ≤ l.length → makeTo l k = rmk l k ++ l.drop k
  | 0, _ => rfl
  | k + 1, hk => by
    have hl := rmk_length l k
    have hx : l.drop k = nx l k :: l.drop (k + 1) := by
      rw [List.drop_eq_getElem_cons (by omega)]
      have := nx_get (l := l) (i := k) (by omega)
      rw [List.getElem?_eq_getElem (by omega)] at this
      rw [Option.some.inj this]
    unfold makeTo rmk
    rw [makeTo_rmk l k (by omega), hx]
    have e : rmk l k ++ nx l k :: l.drop (k + 1) = (rmk l k ++ [nx l k]) ++ l.drop (k + 1) := by simp
    rw [e]
    unfold upL
    rw [upGo_prefix _ _ _ _ (by simp; omega)]
    unfold pushL upL
    simp [hl]
theorem rmk_make (l : List Tx) : rmk l l.length = makeL l := by
  unfold makeL
  rw [makeTo_rmk l _ (Nat.le_refl _)]
  simp
set_option maxHeartbeats 4000000 in
set_option maxRecDepth 100000 in
theorem rmake_ (l : List Tx) (a : Option Addr) (n c : Nat) (w : World) (hM : Most w) (hs : Sl a n c) (hn : n = l.length) (hl : l.length ≤ 100000) (hd : ∀ x ∈ l, x.d.size ≤ maxLen) (hrow : At w (pt a n) (cellsL l)) :
    Calls Tryd.prog 49 (List.toArray [.slice a n c]) w fun e w' => ∃ i : One, Sl i.1 n i.2 ∧ Gives w w' e (.slice i.1 n i.2) [rowF (pt i.1 n) (cellsL (makeL l))] := by
  have hn63 := hs.le
  refine calls_of_exec env_ok Tryd.func49 rfl [] (schedQ_ok _ _ (by kernel_rfl)) [rowF (pt a n) (cellsL l)] (at1 hrow) ?_
  (conv => arg 5; whnf)
  refine loop_learn (rowF (pt none 0) (cellsL (rmk l 0))) (fun g hg => by cases hg) ?_
  refine loop_rule env_ok [] (schedQ_ok _ _ (by kernel_rfl)) (fun q : Nat × One => q.1 ≤ n ∧ Sl q.2.1 q.1 q.2.2 ∧ ∀ g, (rowF (pt q.2.1 q.1) (cellsL (rmk l q.1))).g = some g → w.heap.size ≤ g) (fun q => (⟨[], [], [rowF (pt q.2.1 q.1) (cellsL (rmk l q.1)), rowF (pt a n) (cellsL l)]⟩, sl 18 [(0, .v (.slice a n c)), (3, .v (.slice q.2.1 q.1 q.2.2)), (4, .v (.int .i64 q.1))])) (fun q => n - q.1) (0, (none, 0)) ⟨Nat.zero_le _, ⟨Nat.le_refl _, by simp [maxLen], fun _ => ⟨rfl, rfl⟩⟩, fun g hg => by cases hg⟩ ⟨by repeat' first | exact trivial | refine ⟨.inl rfl, ?_⟩ | refine ⟨.inr rfl, ?_⟩, ⟨by repeat' first | exact trivial | refine ⟨.inl rfl, ?_⟩ | refine ⟨.inr rfl, ?_⟩, by repeat' first | exact trivial | refine ⟨.inl rfl, ?_⟩ | refine ⟨.inr rfl, ?_⟩, fun _ h => h⟩, rfl⟩ ?_
  rintro ⟨k, a', c'⟩ ⟨hk, hs', hfr⟩
  have hk : k ≤ n := hk
  have hs' : Sl a' k c' := hs'
  (conv => arg 5; whnf)
  refine wp_br (fun h1 => ?_) (fun h1 => ?_)
  · have hlt : k < n := by have h2 := of_decide_eq_true (show decide ((k : Int) < (n : Int)) = true from h1); omega
    have hx := nx_get (l := l) (i := k) (by omega)
    have hdx := hd _ (nx_mem (l := l) (i := k) (by omega))
    have hrl := rmk_length l k
    have hst : rmk l (k + 1) = pushL (rmk l k) (nx l k) := rfl
    have PU := fun w hM hr => rpush_ (nx l k) hdx (rmk l k) a' k c' w hM hs' hrl.symm (by omega) (fun x hx => hd x (rmk_mem l k (by omega) x hx)) hr
    rw [hrl, ← hst] at PU
    (conv => arg 5; whnf)
    refine wp_must ⟨by omega, by show (k : Int) < (n : Int); omega, hs.some hlt⟩ ?_
    (conv => arg 5; whnf)
    refine readX (l := l) (k := k) rfl (.tail _ (.head _)) hlt (hs.some hlt) hx rfl ?_
    (conv => arg 5; whnf)
    refine meet1F (f := 47) (n := k + 1) (v := fun a1 c1 => .slice a1 (k + 1) c1) (xs := cellsL (rmk l (k + 1))) rfl (by kernel_rfl) (fun β ρ w' hM' => (PU w' (hM.later hM'.below) (hM'.at_ (.head _))).mono fun e w2 ⟨v, he, hb, ho⟩ => by subst he; exact gives_of_own hb ho) (fun a1 c1 hs1 hf1 => ?_)
    (conv => arg 5; whnf)
    refine wp_must ⟨by show -9223372036854775808 ≤ (k : Int) + 1; omega, by show (k : Int) + 1 ≤ 9223372036854775807; omega⟩ ?_
    (conv => arg 5; whnf)
    refine wp_end ⟨(k + 1, (a1, c1)), ⟨hlt, hs1, hf1⟩, ⟨by repeat' first | exact trivial | refine ⟨.inl rfl, ?_⟩ | refine ⟨.inr rfl, ?_⟩, ⟨by repeat' first | exact trivial | refine ⟨.inl rfl, ?_⟩ | refine ⟨.inr rfl, ?_⟩, by repeat' first | exact trivial | refine ⟨.inl rfl, ?_⟩ | refine ⟨.inr rfl, ?_⟩, fun φ h => by rcases List.mem_cons.1 h with rfl | h; exact .head _; (rcases List.mem_cons.1 h with rfl | h; exact .tail _ (.tail _ (.head _)); cases h)⟩, rfl⟩, by show n - (k + 1) < n - k; omega⟩
  · have hkn : k = n := by have h2 := of_decide_eq_false (show decide ((k : Int) < (n : Int)) = false from h1); omega
    subst hkn
    have hml : rmk l k = makeL l := by rw [hn]; exact rmk_make l
    rw [hml] at hfr
    (conv => arg 5; whnf)
    refine wp_back fun β ρ w' hM' => ⟨(a', c'), hs', rfl, hM'.below, ?_⟩
    intro φ hφ g hg
    simp only [List.mem_singleton] at hφ
    subst hφ
    exact ⟨hfr g hg, hM'.at_ (by rw [← hml]; exact .head _) g hg⟩
set_option maxHeartbeats 4000000 in
set_option maxRecDepth 100000 in
theorem rorder_ (l : List Tx) (a : Option Addr) (n c : Nat) (w : World) (hM : Most w) (hs : Sl a n c) (hn : n = l.length) (hl : l.length ≤ 100000) (hd : ∀ x ∈ l, x.d.size ≤ maxLen) (hrow : At w (pt a n) (cellsL l)) :
    Calls Tryd.prog 51 #[.slice a n c] w fun e w' => ∃ v, e = .returned v ∧ Below w.heap.size w w' ∧ w'.ownsRow w.heap.size 28 6 v n (cellsL (ordL l)) := by
  have hml := makeL_length l
  refine calls_of_row env_ok Tryd.func51 rfl [] (schedQ_ok _ _ (by kernel_rfl)) (n := 2) rfl [.v (.slice a n c)] ⟨[], [], [rowF (pt a n) (cellsL l)]⟩ [] (mem_plain _ (at1 hrow)) (Rels.vals [.slice a n c]) ?_
  (conv => arg 5; whnf)
  refine meet1F (f := 49) (n := n) (v := fun a1 c1 => .slice a1 n c1) (xs := cellsL (makeL l)) rfl (by kernel_rfl) (fun β ρ w' hM' => rmake_ l a n c w' (hM.later hM'.below) hs hn hl hd (hM'.at_ (.head _))) (fun h c_h h_h f_h => ?_)
  (conv => arg 5; whnf)
  refine loop_nil 3 28 6 rfl ?_
  (conv => arg 5; whnf)
  refine loop_rule env_ok [] (schedQ_ok _ _ (by kernel_rfl)) (fun q : List Tx × List Tx × One => q.1 ++ ordGo q.2.1.length q.2.1 = ordL l ∧ q.1.length + q.2.1.length = n ∧ (∀ x ∈ q.2.1, x.d.size ≤ maxLen) ∧ Sl q.2.2.1 q.2.1.length q.2.2.2) (fun q => (⟨[], [some ⟨28, 6, q.1.length, cellsL q.1⟩], [rowF (pt q.2.2.1 q.2.1.length) (cellsL q.2.1)]⟩, sl 25 [(3, .r 0), (4, .v (.slice q.2.2.1 q.2.1.length q.2.2.2))])) (fun q => q.2.1.length) ([], makeL l, (h, c_h)) ⟨by rw [hml]; rfl, by rw [hml]; simp; omega, fun x hx => hd x (makeTo_mem l l.length (Nat.le_refl _) x hx), by show Sl h (makeL l).length c_h; rw [hml, ← hn]; exact h_h⟩ (by rw [hml, ← hn]; exact ⟨by repeat' first | exact trivial | refine ⟨.inl rfl, ?_⟩ | refine ⟨.inr rfl, ?_⟩, ⟨by repeat' first | exact trivial | refine ⟨.inl rfl, ?_⟩ | refine ⟨.inr rfl, ?_⟩, by repeat' first | exact trivial | refine ⟨.inl rfl, ?_⟩ | refine ⟨.inr rfl, ?_⟩, fun φ h => by (simp only [List.mem_singleton] at h; subst h; exact .head _)⟩, rfl⟩) ?_
  rintro ⟨done, l', a', c'⟩ ⟨hor, hlen', hd', hs'⟩
  have hor : done ++ ordGo l'.length l' = ordL l := hor
  have hlen' : done.length + l'.length = n := hlen'
  have hd' : ∀ x ∈ l', x.d.size ≤ maxLen := hd'
  have hs' : Sl a' l'.length c' := hs'
  (conv => arg 5; whnf)
  refine wp_br (fun h1 => ?_) (fun h1 => ?_)
  · have hpos : 1 ≤ l'.length := by have h2 := of_decide_eq_true (show decide ((l'.length : Int) > 0) = true from h1); omega
    have hne : l' ≠ [] := by intro h; rw [h] at hpos; simp at hpos
    have hpl := popL_length l'
    have hst : ordGo l'.length l' = nx l' 0 :: ordGo (popL l').length (popL l') := by
      rw [hpl]
      cases hl' : l'.length with
      | zero => omega
      | succ d => rfl
    have hdl := popL_mem hne
    (conv => arg 5; whnf)
    refine meet1F (f := 41) (n := l'.length - 1) (v := fun a1 c1 => .tuple #[.slice a1 (l'.length - 1) c1, (nx l' 0).val, .bool true]) (xs := cellsL (popL l')) rfl (by kernel_rfl) (fun β ρ w' hM' => rpop_ l' a' l'.length c' w' (hM.later hM'.below) hs' rfl (by omega) hd' (hM'.at_ (.head _)) hpos) (fun a1 c1 hs1 hf1 => ?_)
    (conv => arg 5; whnf)
    refine wp_must ⟨by show done.length + 1 ≤ maxLen; unfold maxLen; omega, by show (done.length + 1) * 56 ≤ 140737488355328; omega⟩ ?_
    (conv => arg 5; whnf)
    refine wp_end ⟨(done ++ [nx l' 0], popL l', (a1, c1)), ⟨by rw [← hor, hst]; simp, by show (done ++ [nx l' 0]).length + (popL l').length = n; simp; omega, fun x hx => hd' x (hdl x hx), by show Sl a1 (popL l').length c1; rw [hpl]; exact hs1⟩, (by rw [hpl, cellsL_append]; simp only [List.length_append, List.length_singleton]; exact ⟨by repeat' first | exact trivial | refine ⟨.inl rfl, ?_⟩ | refine ⟨.inr rfl, ?_⟩, ⟨by repeat' first | exact trivial | refine ⟨.inl rfl, ?_⟩ | refine ⟨.inr rfl, ?_⟩, by repeat' first | exact trivial | refine ⟨.inl rfl, ?_⟩ | refine ⟨.inr rfl, ?_⟩, fun φ h => by (simp only [List.mem_singleton] at h; subst h; exact .head _)⟩, rfl⟩), by show (popL l').length < l'.length; omega⟩
  · have h0 : l' = [] := List.eq_nil_of_length_eq_zero (by have h2 := of_decide_eq_false (show decide ((l'.length : Int) > 0) = false from h1); omega)
    subst h0
    have hor : done = ordL l := by rw [← hor]; simp [ordGo]
    have hnd : done.length = n := by simpa using hlen'
    (conv => arg 5; whnf)
    refine wp_end (fun β ρ w' v hM' hv => ⟨v, rfl, hM'.below, ?_⟩)
    have := hM'.mine (i := 0) (r := ⟨28, 6, done.length, cellsL done⟩) rfl hv
    rw [hor, ordL_length, ← hn] at this
    exact this
end Go.Proofs.YtjejjgoagjkfdaaDoor.heap
