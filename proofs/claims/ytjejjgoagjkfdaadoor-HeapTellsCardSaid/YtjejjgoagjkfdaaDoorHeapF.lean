/- Layer 6 (heap): the first one taken; all, in order. -/
import Derived.Test.YtjejjgoagjkfdaaDoorHeapE
namespace Go.Proofs.YtjejjgoagjkfdaaDoor.heap
open Go.RowKit Sx txn queue
set_option linter.unusedVariables false
set_option linter.unusedSimpArgs false
/-- One of a block's transactions, whole. -/
theorem readBlk {W : World} {G : Option Nat} {Q : Ending → World → Prop} {ds : List Deferred} {ty : TypeId} {l : List Tx} {rest : List Value} {g k : Nat} {m : M} {K : Value → Tree} {a : Addr} (hty : lk env.agg ty = some (some 6)) (hm : blkF g l rest ∈ m.facts) (hk : k < l.length)
    (haddr : a = ⟨g, k * 6, none⟩) (h : (K (nx l k).val).wpD Tryd.prog W G Q ds) : (Tree.load ty a m K).wpD Tryd.prog W G Q ds := by
  refine ⟨(nx l k).val, fun β ρ w hM => ?_, h⟩
  have hv := (blk hM hm).view l.length
  rw [pt_pos hk, List.take_length] at hv
  have := env_ok.aggN ty 6 hty a w (cellsX (nx l k)) rfl (fun j u hu => by
    have hc := hv.cell (cellsL_at (nx_get hk) j u hu)
    rw [add_mk, Nat.zero_add] at hc
    rw [haddr, add_mk]
    exact hc)
  rw [this]
  rfl
theorem popL_mem {l : List Tx} (h : l ≠ []) : ∀ x ∈ popL l, x ∈ l := by
  have hpos : 0 < l.length := List.length_pos_iff.2 h
  have S : ∀ (f k : Nat) (l : List Tx) (i : Nat), k ≤ l.length → (i < k ∨ (i = 0 ∧ k = 0)) → ∀ x ∈ downGo f k l i, x ∈ l := by
    intro f
    induction f with
    | zero => intro k l i _ _ x hx; exact hx
    | succ f ih =>
      intro k l i hk hi x hx
      unfold downGo at hx
      split at hx
      · exact hx
      · rename_i hne
        have hc := (bestV_cases (l.take k) i).resolve_left hne
        have hlen : (l.take k).length = k := by rw [List.length_take]; omega
        exact swp_mem (by omega) (by omega) x (ih k _ _ (by rw [swp_length]; exact hk) (.inl (by omega)) x hx)
  intro x hx
  unfold popL at hx
  have hx := List.mem_of_mem_take hx
  unfold cutL downL at hx
  have hx := S _ _ _ _ (by simp) (by omega) x hx
  rcases List.mem_or_eq_of_mem_set hx with hx | rfl
  · exact hx
  · exact nx_mem (by omega)
theorem row_of_blk {w : World} {g : Nat} {l : List Tx} {rest : List Value} (hb : Blk w g l rest) : At w (pt (some ⟨g, 0, none⟩) l.length) (cellsL l) := by
  have := hb.view l.length
  rwa [List.take_length] at this
set_option maxHeartbeats 4000000 in
set_option maxRecDepth 100000 in
theorem pop_nil (w : World) : Calls Tryd.prog 40 (List.toArray [.slice none 0 0]) w fun e w' => e = .returned (.tuple #[.slice none 0 0, tx0.val, .bool false]) ∧ Below w.heap.size w w' := by
  refine calls_of_exec (env_ok.open_ [67, 72] true) Tryd.func40 rfl [(5, (line [0, 2, 1, 3, 4, 5], [0]))] (schedQ_ok _ _ (by kernel_rfl)) [] (by simp) ?_
  (conv => arg 5; whnf)
  exact wp_back fun β ρ w' hM' => ⟨rfl, hM'.below⟩
set_option maxHeartbeats 4000000 in
set_option maxRecDepth 100000 in
theorem pop_zero (a : Option Addr) (c : Nat) (w : World) : Calls Tryd.prog 40 (List.toArray [.slice a 0 c]) w fun e w' => e = .returned (.tuple #[.slice none 0 0, tx0.val, .bool false]) ∧ Below w.heap.size w w' := by
  refine calls_of_exec (env_ok.open_ [67, 72] true) Tryd.func40 rfl [(5, (line [0, 2, 1, 3, 4, 5], [0]))] (schedQ_ok _ _ (by kernel_rfl)) [] (by simp) ?_
  (conv => arg 5; whnf)
  exact wp_back fun β ρ w' hM' => ⟨rfl, hM'.below⟩
set_option maxHeartbeats 4000000 in
set_option maxRecDepth 100000 in
theorem pop_ (l : List Tx) (a : Option Addr) (n c : Nat) (w : World) (hM : Most w) (hs : Sl a n c) (hn : n = l.length) (hl : l.length ≤ 100000) (hd : ∀ x ∈ l, x.d.size ≤ maxLen) (hrow : At w (pt a n) (cellsL l)) (h1 : 1 ≤ n) :
    Calls Tryd.prog 40 (List.toArray [.slice a n c]) w fun e w' => ∃ i : One, Sl i.1 (n - 1) i.2 ∧ Gives w w' e (.tuple #[.slice i.1 (n - 1) i.2, (nx l 0).val, .bool true]) [rowF (pt i.1 (n - 1)) (cellsL (popL l))] := by
  have hn63 := hs.le
  refine calls_of_exec (env_ok.open_ [67, 72] true) Tryd.func40 rfl [(5, (line [0, 2, 1, 3, 4, 5], [0]))] (schedQ_ok _ _ (by kernel_rfl)) [rowF (pt a n) (cellsL l)] (at1 hrow) ?_
  (conv => arg 5; whnf)
  refine wp_br (fun h => by simp at h; omega) (fun _ => ?_)
  (conv => arg 5; whnf)
  refine op_fresh (e := 28) (size := 6) (n := n) (xs := cellsL l) rfl rfl (by kernel_rfl) (fun β ρ w' hM' => clone l a n c w' hs hn (hM'.at_ (.head _)) (by omega)) (fun h => by omega) (fun g cp rest hg hnc hcm hlen => ?_)
  have hg0 : 0 < g := by have := hM.2.2.2.2.2; omega
  have hpl := popL_length l
  have CT := fun w hM hb => cut_ l rest g n cp w hM hg0 hb ⟨hnc, hcm, fun h => by cases h⟩ hn h1 hl hd
  (conv => arg 5; whnf)
  refine wp_must ⟨by omega, by omega, rfl⟩ ?_
  (conv => arg 5; whnf)
  refine readBlk (l := l) (k := 0) (rest := rest) (g := g) rfl (.head _) (by omega) rfl ?_
  (conv => arg 5; whnf)
  refine op_turn (g := g) (φ := blkF g l rest) rfl rfl (by kernel_rfl) (.head _) rfl (.inl hg) (fun F h => ⟨blkF g l rest, by cases h; exact .head _, rfl⟩) (fun β ρ w' hM' => (CT w' (hM.later hM'.below) (blk hM' (.head _))).mono fun e w2 ⟨he, hgr, rest', hr', hb2⟩ => ⟨_, [blkF g (popL l) rest'], he, hgr, (fun ψ hψ => by (simp only [List.mem_singleton] at hψ; subst hψ; exact .inr ⟨rfl, _, hb2, rfl⟩)), ?_⟩)
  (conv => arg 5; whnf)
  refine wp_back fun β ρ w3 hM3 => ⟨(some ⟨g, 0, none⟩, cp), ⟨by omega, hcm, fun h => by cases h⟩, rfl, hM3.below, ?_⟩
  have hb3 := row_of_blk (blk hM3 (.head _))
  rw [hpl, ← hn] at hb3
  intro φ hφ g' hg'
  simp only [List.mem_singleton] at hφ
  subst hφ
  refine ⟨?_, hb3 g' hg'⟩
  by_cases h0 : n - 1 = 0
  · rw [show rowF (pt (some ⟨g, 0, none⟩) (n - 1)) (cellsL (popL l)) = rowF none (cellsL (popL l)) by rw [show pt (some (⟨g, 0, none⟩ : Addr)) (n - 1) = none from if_pos h0]] at hg'
    cases hg'
  · rw [show rowF (pt (some ⟨g, 0, none⟩) (n - 1)) (cellsL (popL l)) = rowF (some ⟨g, 0, none⟩) (cellsL (popL l)) by rw [show pt (some (⟨g, 0, none⟩ : Addr)) (n - 1) = some ⟨g, 0, none⟩ from if_neg h0]] at hg'
    cases hg'
    exact hg
/-- All of a heap, one after the other. -/
def ordGo : Nat → List Tx → List Tx
  | 0, _ => []
  | f + 1, l => nx l 0 :: ordGo f (popL l)
def ordL (l : List Tx) : List Tx := ordGo l.length (makeL l)
theorem ordGo_length : ∀ (f : Nat) (l : List Tx), (ordGo f l).length = f
  | 0, _ => rfl
  | f + 1, l => by unfold ordGo; rw [List.length_cons, ordGo_length f]
theorem ordL_length (l : List Tx) : (ordL l).length = l.length := ordGo_length _ _
set_option maxHeartbeats 4000000 in
set_option maxRecDepth 100000 in
theorem order_ (l : List Tx) (a : Option Addr) (n c : Nat) (w : World) (hM : Most w) (hs : Sl a n c) (hn : n = l.length) (hl : l.length ≤ 100000) (hd : ∀ x ∈ l, x.d.size ≤ maxLen) (hrow : At w (pt a n) (cellsL l)) :
    Calls Tryd.prog 50 #[.slice a n c] w fun e w' => ∃ v, e = .returned v ∧ Below w.heap.size w w' ∧ w'.ownsRow w.heap.size 28 6 v n (cellsL (ordL l)) := by
  refine calls_of_row (env_ok.open_ [48, 72] false) Tryd.func50 rfl [] (schedQ_ok _ _ (by kernel_rfl)) (n := 2) rfl [.v (.slice a n c)] ⟨[], [], [rowF (pt a n) (cellsL l)]⟩ [] (mem_plain _ (at1 hrow)) (Rels.vals [.slice a n c]) ?_
  (conv => arg 5; whnf)
  refine op_fresh (e := 28) (size := 6) (n := n) (xs := cellsL (makeL l)) rfl rfl (by kernel_rfl) (fun β ρ w' hM' => make_ l a n c w' (hM.later hM'.below) hs hn hl hd (hM'.at_ (.head _))) (fun h => ?_) (fun g cp rest hg hnc hcm hlen => ?_)
  · have hl0 : l = [] := List.eq_nil_of_length_eq_zero (by omega)
    subst hl0 h
    (conv => arg 5; whnf)
    refine loop_rule (env_ok.open_ [48, 72] false) [] (schedQ_ok _ _ (by kernel_rfl)) (fun k : Nat => k = 0) (fun k => (⟨[], [], []⟩, sl 19 [(3, .v (.slice none 0 0)), (4, .v (.slice none 0 0))])) (fun k => 0) 0 rfl ⟨by repeat' first | exact trivial | refine ⟨.inl rfl, ?_⟩ | refine ⟨.inr rfl, ?_⟩, ⟨by repeat' first | exact trivial | refine ⟨.inl rfl, ?_⟩ | refine ⟨.inr rfl, ?_⟩, by repeat' first | exact trivial | refine ⟨.inl rfl, ?_⟩ | refine ⟨.inr rfl, ?_⟩, fun φ h => by cases h⟩, rfl⟩ ?_
    intro k hk
    (conv => arg 5; whnf)
    exact wp_back fun β ρ w3 hM3 => ⟨_, rfl, hM3.below, rfl, .inl ⟨rfl, rfl⟩⟩
  · have hg0 : 0 < g := by have := hM.2.2.2.2.2; omega
    have hcpc := hcm
    unfold maxLen at hcpc
    have hml := makeL_length l
    (conv => arg 5; whnf)
    refine loop_nil 3 28 6 rfl ?_
    (conv => arg 5; whnf)
    refine loop_rule (env_ok.open_ [48, 72] false) [] (schedQ_ok _ _ (by kernel_rfl)) (fun q : List Tx × List Tx × List Value => q.1 ++ ordGo q.2.1.length q.2.1 = ordL l ∧ q.1.length + q.2.1.length = n ∧ ∀ x ∈ q.2.1, x.d.size ≤ maxLen) (fun q => (⟨[], [some ⟨28, 6, q.1.length, cellsL q.1⟩], [blkF g q.2.1 q.2.2]⟩, sl 19 [(3, .r 0), (4, .v (.slice (some ⟨g, 0, none⟩) q.2.1.length cp))])) (fun q => q.2.1.length) ([], makeL l, rest) ⟨by rw [hml]; rfl, by rw [hml]; simp; omega, fun x hx => hd x (makeTo_mem l l.length (Nat.le_refl _) x hx)⟩ (by (try rw [hml, ← hn]); exact ⟨by repeat' first | exact trivial | refine ⟨.inl rfl, ?_⟩ | refine ⟨.inr rfl, ?_⟩, ⟨by repeat' first | exact trivial | refine ⟨.inl rfl, ?_⟩ | refine ⟨.inr rfl, ?_⟩, by repeat' first | exact trivial | refine ⟨.inl rfl, ?_⟩ | refine ⟨.inr rfl, ?_⟩, fun φ h => by (simp only [List.mem_singleton] at h; subst h; exact .head _)⟩, rfl⟩) ?_
    rintro ⟨done, l', rest'⟩ ⟨hor, hlen', hd'⟩
    have hor : done ++ ordGo l'.length l' = ordL l := hor
    have hlen' : done.length + l'.length = n := hlen'
    have hd' : ∀ x ∈ l', x.d.size ≤ maxLen := hd'
    (conv => arg 5; whnf)
    refine wp_br (fun h1 => ?_) (fun h1 => ?_)
    · have hpos : 1 ≤ l'.length := by have h2 := of_decide_eq_true (show decide ((l'.length : Int) > 0) = true from h1); omega
      have hne : l' ≠ [] := by intro h; rw [h] at hpos; simp at hpos
      have hpl := popL_length l'
      have hst : ordGo l'.length l' = nx l' 0 :: ordGo (popL l').length (popL l') := by
        rw [hpl]
        cases hl' : l'.length with
        | zero => omega
        | succ d => rfl
      have CT := fun w hM hb => cut_ l' rest' g l'.length cp w hM hg0 hb ⟨by omega, hcm, fun h => by cases h⟩ rfl hpos (by omega) hd'
      (conv => arg 5; whnf)
      refine wp_must ⟨by omega, by show (0 : Int) < (l'.length : Int); omega, rfl⟩ ?_
      (conv => arg 5; whnf)
      refine readBlk (l := l') (k := 0) (rest := rest') (g := g) rfl (.head _) (by omega) rfl ?_
      (conv => arg 5; whnf)
      refine wp_must ⟨by show done.length + 1 ≤ maxLen; unfold maxLen; omega, by show (done.length + 1) * 56 ≤ 140737488355328; omega⟩ ?_
      (conv => arg 5; whnf)
      refine op_turn (g := g) (φ := blkF g l' rest') rfl rfl (by kernel_rfl) (.head _) rfl (.inl hg) (fun F h => by cases h) (fun β ρ w' hM' => (CT w' (hM.later hM'.below) (blk hM' (.head _))).mono fun e w2 ⟨he, hgr, rest2, hr2, hb2⟩ => ⟨_, [blkF g (popL l') rest2], he, hgr, (fun ψ hψ => by (simp only [List.mem_singleton] at hψ; subst hψ; exact .inr ⟨rfl, _, hb2, rfl⟩)), ?_⟩)
      (conv => arg 5; whnf)
      refine wp_end ⟨(done ++ [nx l' 0], popL l', rest2), ⟨by rw [← hor, hst]; simp, by show (done ++ [nx l' 0]).length + (popL l').length = n; simp; omega, fun x hx => hd' x (popL_mem hne x hx)⟩, (by rw [hpl, cellsL_append]; simp only [List.length_append, List.length_singleton]; exact ⟨by repeat' first | exact trivial | refine ⟨.inl rfl, ?_⟩ | refine ⟨.inr rfl, ?_⟩, ⟨by repeat' first | exact trivial | refine ⟨.inl rfl, ?_⟩ | refine ⟨.inr rfl, ?_⟩, by repeat' first | exact trivial | refine ⟨.inl rfl, ?_⟩ | refine ⟨.inr rfl, ?_⟩, fun _ h => h⟩, rfl⟩), by show (popL l').length < l'.length; omega⟩
    · have h0 : l' = [] := List.eq_nil_of_length_eq_zero (by have h2 := of_decide_eq_false (show decide ((l'.length : Int) > 0) = false from h1); omega)
      subst h0
      have hor : done = ordL l := by rw [← hor]; simp [ordGo]
      have hnd : done.length = n := by simpa using hlen'
      (conv => arg 5; whnf)
      refine wp_end (fun β ρ w' v hM' hv => ⟨v, rfl, hM'.below, ?_⟩)
      have := hM'.mine (i := 0) (r := ⟨28, 6, done.length, cellsL done⟩) rfl hv
      rw [hor, ordL_length, ← hn] at this
      exact this
end Go.Proofs.YtjejjgoagjkfdaaDoor.heap
