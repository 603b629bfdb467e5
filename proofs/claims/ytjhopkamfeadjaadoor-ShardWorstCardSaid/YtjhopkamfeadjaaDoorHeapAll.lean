/- Layer 6 (heap): what a row is asked, by contract. -/
import Derived.Test.YtjhopkamfeadjaaDoorSxO
import Derived.Test.YtjhopkamfeadjaaDoorOrd
import Derived.Test.YtjhopkamfeadjaaDoorQueueS
import Derived.Test.YtjhopkamfeadjaaDoorMeet2
namespace Go.Proofs.YtjhopkamfeadjaaDoor.heap
open Go.RowKit Sx txn queue
set_option linter.unusedVariables false
set_option linter.unusedSimpArgs false

/-- One of a list; where there is none, one of zeros. -/
def nx (l : List Tx) (i : Nat) : Tx := l.getD i tx0
theorem nx_get {l : List Tx} {i : Nat} (h : i < l.length) : l[i]? = some (nx l i) := by
  unfold nx
  rw [List.getD_eq_getElem?_getD, List.getElem?_eq_getElem h]
  rfl
theorem nx_mem {l : List Tx} {i : Nat} (h : i < l.length) : nx l i ∈ l := List.mem_of_getElem? (nx_get h)
/-- A block that holds a list, and maybe more behind it. -/
def blkF (g : Nat) (l : List Tx) (rest : List Value) : Fact := ⟨some g, fun o => o = .cells (cellsL l ++ rest).toArray 32 (0, 0)⟩
def Blk (w : World) (g : Nat) (l : List Tx) (rest : List Value) : Prop := w.heap[g]? = some (.cells (cellsL l ++ rest).toArray 32 (0, 0))
theorem Blk.facts {w : World} {g l rest} (h : Blk w g l rest) : ∀ φ ∈ [blkF g l rest], ∀ g', φ.g = some g' → ∃ o, w.heap[g']? = some o ∧ φ.holds o := by
  intro φ hφ g' hg'
  simp only [List.mem_singleton] at hφ
  subst hφ
  cases hg'
  exact ⟨_, h, rfl⟩
theorem blk {W : World} {G : Option Nat} {m : M} {β ρ} {w : World} {g l rest} (h : Mem W G m β ρ w) (hm : blkF g l rest ∈ m.facts) : Blk w g l rest := by
  obtain ⟨_, o, ho, hp⟩ := h.fact _ hm g rfl
  have hp : o = _ := hp
  rw [hp] at ho
  exact ho
theorem cellsL_take (l : List Tx) (j : Nat) : cellsL (l.take j) = (cellsL l).take (j * 6) := cellsL_takes l j
theorem Blk.view {w : World} {g l rest} (h : Blk w g l rest) (k : Nat) : At w (pt (some ⟨g, 0, none⟩) k) (cellsL (l.take k)) := by
  intro g' hg'
  by_cases hk : k = 0
  · rw [show pt (some ⟨g, 0, none⟩) k = none from if_pos hk] at hg'; cases hg'
  · rw [show pt (some ⟨g, 0, none⟩) k = some ⟨g, 0, none⟩ from if_neg hk] at hg' ⊢
    cases hg'
    refine ⟨_, h, fun ad had => ?_⟩
    cases had
    refine ⟨rfl, _, _, _, rfl, fun j u hu => ?_⟩
    rw [cellsL_take, List.getElem?_take] at hu
    split at hu
    · simp only [Nat.zero_add, List.getElem?_toArray]
      rw [List.getElem?_append_left (List.getElem?_eq_some_iff.1 hu).1]
      exact hu
    · cases hu
theorem Most.turned {w w' : World} {g : Nat} (h : Most w) (k : w.grownBy w' (some g)) (hg : 0 < g) : Most w' := by
  have h0 := h.2.2.2.2.2
  have hb : w'.heap[0]? = w.heap[0]? := k.block 0 h0 (by simp; omega)
  have hc : ∀ j, w'.cell? ⟨0, j, none⟩ = w.cell? ⟨0, j, none⟩ := fun j => World.cell?_of_block hb
  unfold Most at h ⊢
  rw [hc, hc, hc, hc, hc]
  exact ⟨h.1, h.2.1, h.2.2.1, h.2.2.2.1, h.2.2.2.2.1, Nat.lt_of_lt_of_le h0 k.size⟩

end Go.Proofs.YtjhopkamfeadjaaDoor.heap
/- Layer 6 (heap): who is swapped. -/
namespace Go.Proofs.YtjhopkamfeadjaaDoor.heap
open Go.RowKit Sx txn queue
set_option linter.unusedVariables false
set_option linter.unusedSimpArgs false
def swp (l : List Tx) (i j : Nat) : List Tx := (l.set i (nx l j)).set j (nx l i)
theorem swp_length (l : List Tx) (i j : Nat) : (swp l i j).length = l.length := by simp [swp]
theorem spl_append {α : Type} (a b c : List α) (o : Nat) (h : o + c.length ≤ a.length) : spl (a ++ b) o c = spl a o c ++ b := by
  unfold spl
  rw [List.take_append_of_le_length (by omega), List.drop_append_of_le_length h]
  simp
theorem set_cells (l : List Tx) (i : Nat) (x : Tx) (h : i < l.length) : spl (cellsL l) (i * 6) (cellsX x) = cellsL (l.set i x) := by
  have hl := cellsL_length l
  apply List.ext_getElem?
  intro j
  unfold spl
  have e6 : (cellsX x).length = 6 := rfl
  induction l generalizing i j with
  | nil => simp at h
  | cons y l ih =>
    cases i with
    | zero => simp [cellsL, cellsX]
    | succ i =>
      have ih := ih i (by simpa using h) (cellsL_length l)
      have e : cellsL (y :: l) = cellsX y ++ cellsL l := by simp [cellsL]
      have e' : cellsL ((y :: l).set (i + 1) x) = cellsX y ++ cellsL (l.set i x) := by simp [cellsL]
      rw [e, e', show (i + 1) * 6 = (cellsX y).length + i * 6 by simp [cellsX]; omega, List.take_append, List.drop_append]
      simp only [Nat.add_sub_cancel_left, show (cellsX y).length + i * 6 + (cellsX x).length - (cellsX y).length = i * 6 + (cellsX x).length by omega]
      rw [List.take_of_length_le (by omega), List.drop_eq_nil_of_le (by omega), List.nil_append, List.append_assoc, List.append_assoc]
      rcases Nat.lt_or_ge j (cellsX y).length with hj | hj
      · rw [List.getElem?_append_left hj, List.getElem?_append_left hj]
      · rw [List.getElem?_append_right hj, List.getElem?_append_right hj]
        have := ih (j - (cellsX y).length)
        rw [List.append_assoc] at this
        exact this
theorem cellsX_one (x : Tx) : ∀ z ∈ (x.val.cells).toList, z.oneCell' = true := by
  intro z hz
  simp [Tx.val, Value.cells] at hz
  rcases hz with rfl | rfl | rfl | rfl | rfl | rfl <;> rfl
/-- A store of a transaction into a block that is known. -/
theorem op_put {W : World} {G : Option Nat} {Q : Ending → World → Prop} {ds : List Deferred} {o : Oper} {m : M} {t : List T} {k : M → List T → T → Tree} {x y : Operand} {ad : Addr} {u : Tx} {g i : Nat} {l : List Tx} {rest : List Value}
    (ho : o.op = .store 32 x y) (hx : ev t x = .v (.pointer (some ad))) (had : ad = ⟨g, i * 6, none⟩) (hy : ev t y = .v u.val) (hm : blkF g l rest ∈ m.facts) (hW : W.heap.size ≤ g ∨ some g = G) (hi : i < l.length)
    (h : (k { m with facts := [blkF g (l.set i u) rest] } t (.v undef)).wpD Tryd.prog W G Q ds) : (Tree.op none o m t k).wpD Tryd.prog W G Q ds := by
  refine op_store (g := g) (off := i * 6) ho hx had hy (by kernel_rfl) (cellsX_one u) fun β ρ w hM => ?_
  have hb := blk hM hm
  have hl := cellsL_length l
  refine ⟨_, _, hb, ?_, fun w' hgr hh => ⟨_, hM.turn hm rfl hW hgr (fs := [blkF g (l.set i u) rest]) ?_, h⟩⟩
  · simp only [List.size_toArray, List.length_append, Tx.val, Value.cells]
    simp
    omega
  · intro ψ hψ
    simp only [List.mem_singleton] at hψ
    subst hψ
    refine .inr ⟨rfl, _, hh, ?_⟩
    show Obj.cells _ _ _ = Obj.cells _ _ _
    congr 2
    rw [List.toList_toArray, spl_append _ _ _ _ (by simp [Tx.val, Value.cells]; omega)]
    have := set_cells l i u hi
    rw [show u.val.cells.toList = cellsX u from rfl, this]
end Go.Proofs.YtjhopkamfeadjaaDoor.heap
/- Layer 6 (heap): who rises, by contract. -/
namespace Go.Proofs.YtjhopkamfeadjaaDoor.heap
open Go.RowKit Sx txn queue
set_option linter.unusedVariables false
set_option linter.unusedSimpArgs false
theorem nx_take {l : List Tx} {i k : Nat} (h : i < k) : nx (l.take k) i = nx l i := by
  unfold nx
  rw [List.getD_eq_getElem?_getD, List.getD_eq_getElem?_getD, List.getElem?_take, if_pos h]
theorem mem_take {l : List Tx} {k : Nat} {x : Tx} (h : x ∈ l.take k) : x ∈ l := List.mem_of_mem_take h
/-- Who is better than who stands above rises. -/
def upGo : Nat → List Tx → Nat → List Tx
  | 0, l, _ => l
  | f + 1, l, i => if i = 0 then l else if betterV (nx l i) (nx l ((i - 1) / 2)) then upGo f (swp l i ((i - 1) / 2)) ((i - 1) / 2) else l
def upL (k : Nat) (l : List Tx) : List Tx := upGo k l (k - 1)
theorem upGo_enough : ∀ (i f : Nat) (l : List Tx), i < f → upGo f l i = upGo (i + 1) l i := by
  intro i
  induction i using Nat.strongRecOn with
  | ind i ih =>
    intro f l hf
    cases f with
    | zero => omega
    | succ f =>
      unfold upGo
      by_cases h0 : i = 0
      · rw [if_pos h0, if_pos h0]
      · rw [if_neg h0, if_neg h0]
        split
        · rw [ih ((i - 1) / 2) (by omega) f _ (by omega), ih ((i - 1) / 2) (by omega) i _ (by omega)]
        · rfl
theorem upGo_step (l : List Tx) (i : Nat) (h0 : 0 < i) (hb : betterV (nx l i) (nx l ((i - 1) / 2)) = true) : upGo (i + 1) l i = upGo ((i - 1) / 2 + 1) (swp l i ((i - 1) / 2)) ((i - 1) / 2) := by
  conv => lhs; unfold upGo
  rw [if_neg (by omega), if_pos hb, upGo_enough ((i - 1) / 2) i _ (by omega)]
theorem upGo_stop (l : List Tx) (i : Nat) (h : i = 0 ∨ betterV (nx l i) (nx l ((i - 1) / 2)) = false) : upGo (i + 1) l i = l := by
  unfold upGo
  by_cases h0 : i = 0
  · rw [if_pos h0]
  · rw [if_neg h0, if_neg (by rw [h.resolve_left h0]; simp)]
theorem upGo_length : ∀ (f : Nat) (l : List Tx) (i : Nat), (upGo f l i).length = l.length
  | 0, l, i => rfl
  | f + 1, l, i => by
    unfold upGo
    split
    · rfl
    · split
      · rw [upGo_length, swp_length]
      · rfl
theorem upL_length (k : Nat) (l : List Tx) : (upL k l).length = l.length := upGo_length _ _ _
theorem swp_mem {l : List Tx} {i j : Nat} (hi : i < l.length) (hj : j < l.length) : ∀ x ∈ swp l i j, x ∈ l := by
  intro x hx
  unfold swp at hx
  rcases List.mem_or_eq_of_mem_set hx with hx | rfl
  · rcases List.mem_or_eq_of_mem_set hx with hx | rfl
    · exact hx
    · exact nx_mem hj
  · exact nx_mem hi
end Go.Proofs.YtjhopkamfeadjaaDoor.heap
/- Layer 6 (heap): who sinks, by contract. -/
namespace Go.Proofs.YtjhopkamfeadjaaDoor.heap
open Go.RowKit Sx txn queue
set_option linter.unusedVariables false
set_option linter.unusedSimpArgs false
/-- The better one of those below, or who stands there. -/
def best1 (l : List Tx) (i : Nat) : Nat := if 2 * i + 1 < l.length ∧ betterV (nx l (2 * i + 1)) (nx l i) = true then 2 * i + 1 else i
def bestV (l : List Tx) (i : Nat) : Nat := if 2 * i + 2 < l.length ∧ betterV (nx l (2 * i + 2)) (nx l (best1 l i)) = true then 2 * i + 2 else best1 l i
def bst (l : List Tx) (i : Nat) : Nat → Nat
  | 0 => i
  | 1 => best1 l i
  | _ => bestV l i
theorem best1_lt {l : List Tx} {i : Nat} (h : i < l.length) : best1 l i < l.length := by unfold best1; split <;> omega
theorem bestV_lt {l : List Tx} {i : Nat} (h : i < l.length) : bestV l i < l.length := by have := best1_lt h; unfold bestV; split <;> omega
theorem bst_lt {l : List Tx} {i : Nat} (h : i < l.length) : ∀ j, bst l i j < l.length
  | 0 => h
  | 1 => best1_lt h
  | _ + 2 => bestV_lt h
theorem bst_step {l : List Tx} {i j : Nat} (hj : j ≤ 1) (h : 2 * i + 1 + j < l.length) : bst l i (j + 1) = if betterV (nx l (2 * i + 1 + j)) (nx l (bst l i j)) = true then 2 * i + 1 + j else bst l i j := by
  rcases (by omega : j = 0 ∨ j = 1) with rfl | rfl
  · show best1 l i = _
    unfold best1
    by_cases hb : betterV (nx l (2 * i + 1)) (nx l i) = true
    · rw [if_pos ⟨by omega, hb⟩]
      show _ = if betterV (nx l (2 * i + 1)) (nx l i) = true then _ else i
      rw [if_pos hb]
    · rw [if_neg (fun h => hb h.2)]
      show i = if betterV (nx l (2 * i + 1)) (nx l i) = true then _ else i
      rw [if_neg hb]
  · show bestV l i = _
    unfold bestV
    by_cases hb : betterV (nx l (2 * i + 2)) (nx l (best1 l i)) = true
    · rw [if_pos ⟨by omega, hb⟩]
      show _ = if betterV (nx l (2 * i + 2)) (nx l (best1 l i)) = true then 2 * i + 2 else best1 l i
      rw [if_pos hb]
    · rw [if_neg (fun h => hb h.2)]
      show best1 l i = if betterV (nx l (2 * i + 2)) (nx l (best1 l i)) = true then 2 * i + 2 else best1 l i
      rw [if_neg hb]
theorem bst_stop {l : List Tx} {i j : Nat} (hj : j ≤ 2) (h : j = 2 ∨ l.length ≤ 2 * i + 1 + j) : bst l i j = bestV l i := by
  rcases (by omega : j = 0 ∨ j = 1 ∨ j = 2) with rfl | rfl | rfl
  · have e1 : best1 l i = i := by unfold best1; rw [if_neg (by omega)]
    show i = bestV l i
    unfold bestV
    rw [if_neg (by omega), e1]
  · show best1 l i = bestV l i
    unfold bestV
    rw [if_neg (by omega)]
  · rfl
theorem bestV_cases (l : List Tx) (i : Nat) : bestV l i = i ∨ (i < bestV l i ∧ bestV l i < l.length) := by
  unfold bestV best1
  by_cases h1 : 2 * i + 2 < l.length ∧ betterV (nx l (2 * i + 2)) (nx l (if 2 * i + 1 < l.length ∧ betterV (nx l (2 * i + 1)) (nx l i) = true then 2 * i + 1 else i)) = true
  · rw [if_pos h1]; have := h1.1; omega
  · rw [if_neg h1]
    split
    · rename_i h2; have := h2.1; omega
    · exact .inl rfl
/-- Who stands above a better one sinks. -/
def downGo : Nat → Nat → List Tx → Nat → List Tx
  | 0, _, l, _ => l
  | f + 1, k, l, i => if bestV (l.take k) i = i then l else downGo f k (swp l i (bestV (l.take k) i)) (bestV (l.take k) i)
def downL (k : Nat) (l : List Tx) : List Tx := downGo k k l 0
theorem downGo_enough (k : Nat) : ∀ (n i f : Nat) (l : List Tx), k - i = n → k - i ≤ f → downGo f k l i = downGo (k - i) k l i := by
  intro n
  induction n using Nat.strongRecOn with
  | ind n ih =>
    intro i f l hn hf
    have hc := bestV_cases (l.take k) i
    have hlen : (l.take k).length ≤ k := by rw [List.length_take]; omega
    cases f with
    | zero => rw [show k - i = 0 by omega]
    | succ f =>
      cases hki : k - i with
      | zero =>
        unfold downGo
        rw [if_pos (by omega)]
      | succ d =>
        unfold downGo
        split
        · rfl
        · rename_i hne
          have h2 := hc.resolve_left hne
          rw [ih (k - bestV (l.take k) i) (by omega) _ f _ rfl (by omega), ih (k - bestV (l.take k) i) (by omega) _ d _ rfl (by omega)]
theorem downGo_step (k : Nat) (l : List Tx) (i : Nat) (h : bestV (l.take k) i ≠ i) : downGo (k - i) k l i = downGo (k - bestV (l.take k) i) k (swp l i (bestV (l.take k) i)) (bestV (l.take k) i) := by
  have hc := (bestV_cases (l.take k) i).resolve_left h
  have hlen : (l.take k).length ≤ k := by rw [List.length_take]; omega
  cases hki : k - i with
  | zero => omega
  | succ d =>
    conv => lhs; unfold downGo
    rw [if_neg h]
    exact downGo_enough k _ _ _ _ rfl (by omega)
theorem downGo_stop (k : Nat) (l : List Tx) (i : Nat) (h : bestV (l.take k) i = i) : downGo (k - i) k l i = l := by
  cases hki : k - i with
  | zero => rfl
  | succ d => unfold downGo; rw [if_pos h]
theorem downGo_length : ∀ (f k : Nat) (l : List Tx) (i : Nat), (downGo f k l i).length = l.length
  | 0, k, l, i => rfl
  | f + 1, k, l, i => by
    unfold downGo
    split
    · rfl
    · rw [downGo_length, swp_length]
theorem downL_length (k : Nat) (l : List Tx) : (downL k l).length = l.length := downGo_length _ _ _ _
end Go.Proofs.YtjhopkamfeadjaaDoor.heap
/- Layer 6 (heap): whether it is one; the worst one; the first one taken out. -/
namespace Go.Proofs.YtjhopkamfeadjaaDoor.heap
open Go.RowKit Sx txn queue
set_option linter.unusedVariables false
set_option linter.unusedSimpArgs false
/-- So far none is better than the one above it. -/
def heapTo (l : List Tx) (k : Nat) : Bool := (List.range k).all fun i => i == 0 || !betterV (nx l i) (nx l ((i - 1) / 2))
def heapV (l : List Tx) : Bool := heapTo l l.length
theorem heapTo_succ (l : List Tx) (k : Nat) : heapTo l (k + 1) = (heapTo l k && (k == 0 || !betterV (nx l k) (nx l ((k - 1) / 2)))) := by
  unfold heapTo
  rw [List.range_succ, List.all_append]
  simp
theorem heapTo_bad {l : List Tx} {k : Nat} (h0 : 0 < k) (hk : k < l.length) (hb : betterV (nx l k) (nx l ((k - 1) / 2)) = true) : heapV l = false := by
  unfold heapV heapTo
  rw [List.all_eq_false]
  exact ⟨k, by simpa using hk, by simp [hb]; omega⟩
/-- The worst one so far. -/
def worstTo (l : List Tx) : Nat → Nat
  | 0 => 0
  | k + 1 => if betterV (nx l (worstTo l k)) (nx l k) = true then k else worstTo l k
theorem worstTo_lt (l : List Tx) : ∀ k, worstTo l k ≤ k - 1
  | 0 => Nat.le_refl _
  | k + 1 => by
    have := worstTo_lt l k
    unfold worstTo
    split <;> omega
set_option maxHeartbeats 4000000 in
set_option maxRecDepth 100000 in
theorem worst_ (l : List Tx) (a : Option Addr) (n c : Nat) (w : World) (hM : Most w) (hs : Sl a n c) (hn : n = l.length) (hl : l.length ≤ 100000) (hd : ∀ x ∈ l, x.d.size ≤ maxLen) (hrow : At w (pt a n) (cellsL l)) :
    Calls Tryd.prog 31 (List.toArray [.slice a n c]) w fun e w' => e = .returned (.tuple #[.int .i64 (worstTo l n : Nat), .bool (decide (0 < n))]) ∧ Below w.heap.size w w' := by
  have hn63 := hs.le
  refine calls_of_exec env_ok Tryd.func31 rfl [(5, (line [0, 1, 2, 3, 4, 5, 6, 7, 8], []))] (schedQ_ok _ _ (by kernel_rfl)) [rowF (pt a n) (cellsL l)] (at1 hrow) ?_
  (conv => arg 5; whnf)
  refine loop_rule env_ok [(5, (line [0, 1, 2, 3, 4, 5, 6, 7, 8], []))] (schedQ_ok _ _ (by kernel_rfl)) (fun k : Nat => k ≤ n) (fun k => (⟨[], [], [rowF (pt a n) (cellsL l)]⟩, sl 26 [(0, .v (.slice a n c)), (2, .v (.int .i64 0)), (3, .v (.bool false)), (4, .v (.int .i64 (worstTo l k : Nat))), (6, .v (.slice a n c)), (7, .v (.int .i64 n)), (8, .v (.int .i64 k))])) (fun k => n - k) 0 (Nat.zero_le _) ⟨by repeat' first | exact trivial | refine ⟨.inl rfl, ?_⟩ | refine ⟨.inr rfl, ?_⟩, ⟨by repeat' first | exact trivial | refine ⟨.inl rfl, ?_⟩ | refine ⟨.inr rfl, ?_⟩, by repeat' first | exact trivial | refine ⟨.inl rfl, ?_⟩ | refine ⟨.inr rfl, ?_⟩, fun _ h => h⟩, rfl⟩ ?_
  intro k hk
  (conv => arg 5; whnf)
  refine wp_br (fun h1 => ?_) (fun h1 => ?_)
  · have hlt : k < n := by simp at h1; omega
    have hw := worstTo_lt l k
    have hx := nx_get (l := l) (i := worstTo l k) (by omega)
    have hy := nx_get (l := l) (i := k) (by omega)
    have hlw : worstTo l k < n := by omega
    have hst : worstTo l (k + 1) = if betterV (nx l (worstTo l k)) (nx l k) = true then k else worstTo l k := rfl
    have B := fun w hM => better (nx l (worstTo l k)) (nx l k) w hM (hd _ (nx_mem (by omega))) (hd _ (nx_mem (by omega)))
    (conv => arg 5; whnf)
    refine wp_must ⟨by omega, by omega, hs.some hlw⟩ ?_
    (conv => arg 5; whnf)
    refine readX (l := l) (k := worstTo l k) rfl List.mem_cons_self hlw (hs.some hlw) hx rfl ?_
    (conv => arg 5; whnf)
    refine wp_must ⟨by omega, by omega, hs.some hlt⟩ ?_
    (conv => arg 5; whnf)
    refine readX (l := l) (k := k) rfl List.mem_cons_self hlt (hs.some hlt) hy rfl ?_
    (conv => arg 5; whnf)
    refine meetc (v := .bool (betterV (nx l (worstTo l k)) (nx l k))) rfl (by kernel_rfl) (fun β ρ w' hM' => B w' (hM.later hM'.below)) ?_
    (conv => arg 5; whnf)
    refine wp_br (fun h2 => ?_) (fun h2 => ?_)
    · (conv => arg 5; whnf)
      refine wp_must ⟨by omega, by omega⟩ ?_
      (conv => arg 5; whnf)
      refine wp_end ⟨k + 1, hlt, (by rw [hst, if_pos h2]; exact ⟨by repeat' first | exact trivial | refine ⟨.inl rfl, ?_⟩ | refine ⟨.inr rfl, ?_⟩, ⟨by repeat' first | exact trivial | refine ⟨.inl rfl, ?_⟩ | refine ⟨.inr rfl, ?_⟩, by repeat' first | exact trivial | refine ⟨.inl rfl, ?_⟩ | refine ⟨.inr rfl, ?_⟩, fun _ h => h⟩, rfl⟩), by show n - (k + 1) < n - k; omega⟩
    · (conv => arg 5; whnf)
      refine wp_must ⟨by omega, by omega⟩ ?_
      (conv => arg 5; whnf)
      refine wp_end ⟨k + 1, hlt, (by rw [hst, if_neg (by rw [h2]; simp)]; exact ⟨by repeat' first | exact trivial | refine ⟨.inl rfl, ?_⟩ | refine ⟨.inr rfl, ?_⟩, ⟨by repeat' first | exact trivial | refine ⟨.inl rfl, ?_⟩ | refine ⟨.inr rfl, ?_⟩, by repeat' first | exact trivial | refine ⟨.inl rfl, ?_⟩ | refine ⟨.inr rfl, ?_⟩, fun _ h => h⟩, rfl⟩), by show n - (k + 1) < n - k; omega⟩
  · have hkn : k = n := by simp at h1; omega
    subst hkn
    (conv => arg 5; whnf)
    exact wp_back fun β ρ w' hM' => ⟨by (have e : decide ((k : Int) > 0) = decide (0 < k) := by simp); show Ending.returned (.tuple #[.int .i64 (worstTo l k : Nat), .bool (decide ((k : Int) > 0))]) = _; rw [e], hM'.below⟩
/-- The first one taken out: the last one in its place sinks. -/
def cutL (l : List Tx) : List Tx := downL (l.length - 1) (l.set 0 (nx l (l.length - 1)))
def popL (l : List Tx) : List Tx := (cutL l).take (l.length - 1)
theorem cutL_length (l : List Tx) : (cutL l).length = l.length := by unfold cutL; rw [downL_length]; simp
theorem popL_length (l : List Tx) : (popL l).length = l.length - 1 := by unfold popL; rw [List.length_take, cutL_length]; omega
end Go.Proofs.YtjhopkamfeadjaaDoor.heap
/- Layer 6 (heap): one more; a heap of any. -/
namespace Go.Proofs.YtjhopkamfeadjaaDoor.heap
open Go.RowKit Sx txn queue
set_option linter.unusedVariables false
set_option linter.unusedSimpArgs false
theorem upGo_mem : ∀ (f : Nat) (l : List Tx) (i : Nat), i < l.length → ∀ x ∈ upGo f l i, x ∈ l
  | 0, l, i, _, x, hx => hx
  | f + 1, l, i, hi, x, hx => by
    unfold upGo at hx
    split at hx
    · exact hx
    · split at hx
      · exact swp_mem hi (by omega) x (upGo_mem f _ _ (by rw [swp_length]; omega) x hx)
      · exact hx
theorem upL_mem {l : List Tx} {k : Nat} (h1 : 1 ≤ k) (hk : k ≤ l.length) : ∀ x ∈ upL k l, x ∈ l := upGo_mem k l (k - 1) (by omega)
theorem own_of_blk {w : World} {base g : Nat} {l : List Tx} {rest : List Value} {n c : Nat} (hb : Blk w g l rest) (hg : base ≤ g) (hn : n = l.length) (hc : n ≤ c) (hm : c ≤ maxLen) (hlen : (cellsL l).length + rest.length = c * 6) :
    w.ownsRow base 32 6 (.slice (some ⟨g, 0, none⟩) n c) n (cellsL l) := by
  refine ⟨by rw [cellsL_length, hn], .inr ⟨g, c, _, rfl, hg, hb, hc, hm, by simp; omega, ?_⟩⟩
  rw [List.toList_toArray, List.take_append_of_le_length (by rw [cellsL_length, hn]; omega), List.take_of_length_le (by rw [cellsL_length, hn]; omega)]
/-- One more. -/
def pushL (l : List Tx) (t : Tx) : List Tx := upL (l ++ [t]).length (l ++ [t])
theorem pushL_length (l : List Tx) (t : Tx) : (pushL l t).length = l.length + 1 := by unfold pushL; rw [upL_length]; simp
theorem pushL_mem {l : List Tx} {t : Tx} : ∀ x ∈ pushL l t, x ∈ l ++ [t] := upL_mem (by simp) (Nat.le_refl _)
/-- A heap of any. -/
def makeTo (l : List Tx) : Nat → List Tx
  | 0 => l
  | k + 1 => upL (k + 1) (makeTo l k)
def makeL (l : List Tx) : List Tx := makeTo l l.length
theorem makeTo_length (l : List Tx) : ∀ k, (makeTo l k).length = l.length
  | 0 => rfl
  | k + 1 => by unfold makeTo; rw [upL_length, makeTo_length l k]
theorem makeTo_mem (l : List Tx) : ∀ k, k ≤ l.length → ∀ x ∈ makeTo l k, x ∈ l
  | 0, _, x, hx => hx
  | k + 1, hk, x, hx => makeTo_mem l k (by omega) x (upL_mem (by omega) (by rw [makeTo_length]; omega) x hx)
theorem makeL_length (l : List Tx) : (makeL l).length = l.length := makeTo_length _ _
end Go.Proofs.YtjhopkamfeadjaaDoor.heap
/- Layer 6 (heap): the first one taken; all, in order. -/
namespace Go.Proofs.YtjhopkamfeadjaaDoor.heap
open Go.RowKit Sx txn queue
set_option linter.unusedVariables false
set_option linter.unusedSimpArgs false
/-- One of a block's transactions, whole. -/
theorem readBlk {W : World} {G : Option Nat} {Q : Ending → World → Prop} {ds : List Deferred} {ty : TypeId} {l : List Tx} {rest : List Value} {g k : Nat} {m : M} {K : Value → Tree} {a : Addr} (hty : lk env.agg ty = some (some 6)) (hm : blkF g l rest ∈ m.facts) (hk : k < l.length)
    (haddr : a = ⟨g, k * 6, none⟩) (h : (K (nx l k).val).wpD Tryd.prog W G Q ds) : (Tree.load ty a m K).wpD Tryd.prog W G Q ds := by
  refine ⟨(nx l k).val, fun β ρ w hM => ?_, h⟩
  have hv := (blk hM hm).view l.length
  rw [pt_pos hk, List.take_length] at hv
  have := env_ok.aggN ty 6 hty a w (cellsX (nx l k)) rfl (fun j u hu => by
    have hc := hv.cell (cellsL_at (nx_get hk) j u hu)
    rw [add_mk, Nat.zero_add] at hc
    rw [haddr, add_mk]
    exact hc)
  rw [this]
  rfl
theorem popL_mem {l : List Tx} (h : l ≠ []) : ∀ x ∈ popL l, x ∈ l := by
  have hpos : 0 < l.length := List.length_pos_iff.2 h
  have S : ∀ (f k : Nat) (l : List Tx) (i : Nat), k ≤ l.length → (i < k ∨ (i = 0 ∧ k = 0)) → ∀ x ∈ downGo f k l i, x ∈ l := by
    intro f
    induction f with
    | zero => intro k l i _ _ x hx; exact hx
    | succ f ih =>
      intro k l i hk hi x hx
      unfold downGo at hx
      split at hx
      · exact hx
      · rename_i hne
        have hc := (bestV_cases (l.take k) i).resolve_left hne
        have hlen : (l.take k).length = k := by rw [List.length_take]; omega
        exact swp_mem (by omega) (by omega) x (ih k _ _ (by rw [swp_length]; exact hk) (.inl (by omega)) x hx)
  intro x hx
  unfold popL at hx
  have hx := List.mem_of_mem_take hx
  unfold cutL downL at hx
  have hx := S _ _ _ _ (by simp) (by omega) x hx
  rcases List.mem_or_eq_of_mem_set hx with hx | rfl
  · exact hx
  · exact nx_mem (by omega)
theorem row_of_blk {w : World} {g : Nat} {l : List Tx} {rest : List Value} (hb : Blk w g l rest) : At w (pt (some ⟨g, 0, none⟩) l.length) (cellsL l) := by
  have := hb.view l.length
  rwa [List.take_length] at this
/-- All of a heap, one after the other. -/
def ordGo : Nat → List Tx → List Tx
  | 0, _ => []
  | f + 1, l => nx l 0 :: ordGo f (popL l)
def ordL (l : List Tx) : List Tx := ordGo l.length (makeL l)
theorem ordGo_length : ∀ (f : Nat) (l : List Tx), (ordGo f l).length = f
  | 0, _ => rfl
  | f + 1, l => by unfold ordGo; rw [List.length_cons, ordGo_length f]
theorem ordL_length (l : List Tx) : (ordL l).length = l.length := ordGo_length _ _
end Go.Proofs.YtjhopkamfeadjaaDoor.heap
/- Layer 6 (heap): the document's Check, Push, below, Worst. -/
namespace Go.Proofs.YtjhopkamfeadjaaDoor.heap
open Go.RowKit Sx txn queue
set_option linter.unusedVariables false
set_option linter.unusedSimpArgs false
theorem quo_ (x y : Operand) (k : Nat) (hk : k ≤ 1000000000) (w : World) : (do eqGuard .quo 3 x y (.int .i64 (k : Int)) (.int .i64 2); pure (Next.value (← binOp .quo 3 (.int .i64 (k : Int)) (.int .i64 2))) : Sem Next).run Tryd.prog w = .ok (.value (.int .i64 ((k / 2 : Nat) : Int))) w := by
  have h2 : Int.tdiv (k : Int) 2 = ((k / 2 : Nat) : Int) := by
    rw [Int.tdiv_eq_ediv_of_nonneg (by omega)]; rfl
  have h3 : IntKind.i64.wrap ((k / 2 : Nat) : Int) = ((k / 2 : Nat) : Int) := by
    unfold IntKind.wrap
    simp [IntKind.signed, IntKind.bits]
    omega
  have h4 : IntKind.i64.wrap ((k : Int) / 2) = (k : Int) / 2 := by simpa using h3
  simp [eqGuard, go_sem, h2, h4]
/-- The better one of those below; none: -1. -/
def belowI (l : List Tx) (i : Nat) : Int := if l.length ≤ 2 * i + 1 then -1 else if 2 * i + 2 < l.length ∧ betterV (nx l (2 * i + 2)) (nx l (2 * i + 1)) = true then 2 * i + 2 else 2 * i + 1
end Go.Proofs.YtjhopkamfeadjaaDoor.heap
/- Layer 6 (heap): the document's Push, Worst. -/
namespace Go.Proofs.YtjhopkamfeadjaaDoor.heap
open Go.RowKit Sx txn queue
set_option linter.unusedVariables false
set_option linter.unusedSimpArgs false
section
variable {P : Program} {W : World} {G : Option Nat} {Q : Ending → World → Prop} {ds : List Deferred}
/-- A row that came in, appended. -/
theorem rowsP {l : List Tx} {a : Option Addr} {n : Nat} {m : M} {K : List Value → Tree} (hn : n = l.length) (hm : rowF (pt a n) (cellsL l) ∈ m.facts) (h : (K (cellsL l)).wpD P W G Q ds) : (Tree.rows a n 6 m K).wpD P W G Q ds := by
  refine ⟨cellsL l, by rw [cellsL_length, hn], cellsL_one l, fun β ρ w' hM' ad had j u hu => ?_, h⟩
  subst had
  have h1 := hM'.at_ hm
  rw [pt_pos (k := 0) (by have := cellsL_pos hu; omega)] at h1
  exact h1.cell hu
/-- One of an own row's transactions, whole. -/
theorem valsX {l : List Tx} {k o : Nat} {K : List Value → Tree} (hk : k < l.length) (ho : o = k * 6) (h : (K (cellsX (nx l k))).wpD P W G Q ds) : (Tree.vals (cellsL l) o 6 K).wpD P W G Q ds :=
  ⟨cellsX (nx l k), rfl, fun j u hu => by rw [ho]; exact cellsL_at (nx_get hk) j u hu, h⟩
end
theorem quoI (x y : Operand) (m : Int) (k : Nat) (e : m = (k : Int)) (hk : k ≤ 1000000000) (w : World) : (do eqGuard .quo 3 x y (.int .i64 m) (.int .i64 2); pure (Next.value (← binOp .quo 3 (.int .i64 m) (.int .i64 2))) : Sem Next).run Tryd.prog w = .ok (.value (.int .i64 ((k / 2 : Nat) : Int))) w := by
  subst e
  exact quo_ x y k hk w
theorem nx_set_self {l : List Tx} {i : Nat} {x : Tx} (h : i < l.length) : nx (l.set i x) i = x := by
  unfold nx
  rw [List.getD_eq_getElem?_getD, List.getElem?_set_self h]
  rfl
theorem nx_set_ne {l : List Tx} {i j : Nat} {x : Tx} (h : i ≠ j) : nx (l.set i x) j = nx l j := by
  unfold nx
  rw [List.getD_eq_getElem?_getD, List.getD_eq_getElem?_getD, List.getElem?_set_ne h]
theorem nx_append {l r : List Tx} {i : Nat} (h : i < l.length) : nx (l ++ r) i = nx l i := by
  unfold nx
  rw [List.getD_eq_getElem?_getD, List.getD_eq_getElem?_getD, List.getElem?_append_left h]
theorem nx_last (l : List Tx) (t : Tx) : nx (l ++ [t]) l.length = t := by
  unfold nx
  simp
theorem own_row {w : World} {base : Nat} {e : TypeId} {size : Nat} {v : Value} {n : Nat} {xs : List Value} (h : w.ownsRow base e size v n xs) : ∃ a c, v = .slice a n c ∧ Sl a n c ∧ (∀ ad, a = some ad → base ≤ ad.block) ∧ At w (pt a n) xs := by
  obtain ⟨hl, ⟨rfl, rfl⟩ | ⟨g, cap, cur, rfl, hb, hg, hn, hc, hsz, hx⟩⟩ := h
  · exact ⟨none, 0, rfl, ⟨Nat.le_refl _, Nat.zero_le _, fun _ => ⟨rfl, rfl⟩⟩, fun ad h => (by cases h), fun g hg => (by cases hg)⟩
  · refine ⟨_, cap, rfl, ⟨hn, hc, fun h => (by cases h)⟩, fun ad h => (by cases h; exact hb), ?_⟩
    by_cases h0 : n = 0
    · rw [show pt _ n = none from if_pos h0]
      intro g hg
      cases hg
    · rw [show pt _ n = _ from if_neg h0]
      intro g' hg'
      cases hg'
      refine ⟨_, hg, fun ad had => ?_⟩
      cases had
      refine ⟨rfl, cur, e, _, rfl, fun j u hu => ?_⟩
      have hj : j < n * size := by
        have := (List.getElem?_eq_some_iff.1 hu).1
        omega
      rw [← hx, List.getElem?_take, if_pos hj, Array.getElem?_toList] at hu
      simpa using hu
theorem gives_of_own {w w' : World} {v : Value} {n : Nat} {xs : List Value} (hb : Below w.heap.size w w') (ho : w'.ownsRow w.heap.size 32 6 v n xs) : ∃ i : One, Sl i.1 n i.2 ∧ Gives w w' (.returned v) (.slice i.1 n i.2) [rowF (pt i.1 n) xs] := by
  obtain ⟨a, c, rfl, hs, hlo, hat⟩ := own_row ho
  refine ⟨(a, c), hs, rfl, hb, ?_⟩
  intro φ hφ g hg
  simp only [List.mem_singleton] at hφ
  subst hφ
  refine ⟨?_, hat g hg⟩
  by_cases h0 : n = 0
  · rw [show rowF (pt a n) xs = rowF none xs by rw [show pt a n = none from if_pos h0]] at hg; cases hg
  · rw [show rowF (pt a n) xs = rowF a xs by rw [show pt a n = a from if_neg h0]] at hg
    cases a with
    | none => cases hg
    | some ad => cases hg; exact hlo ad rfl
end Go.Proofs.YtjhopkamfeadjaaDoor.heap
/- Layer 6 (heap): the document's Pop. -/
namespace Go.Proofs.YtjhopkamfeadjaaDoor.heap
open Go.RowKit Sx txn queue
set_option linter.unusedVariables false
set_option linter.unusedSimpArgs false
section
variable {P : Program} {W : World} {G : Option Nat} {Q : Ending → World → Prop} {ds : List Deferred}
/-- The beginning of a row that came in, appended. -/
theorem rowsT {l : List Tx} {a : Option Addr} {n j : Nat} {m : M} {K : List Value → Tree} (hn : n = l.length) (hj : j ≤ n) (hm : rowF (pt a n) (cellsL l) ∈ m.facts) (h : (K (cellsL (l.take j))).wpD P W G Q ds) : (Tree.rows a j 6 m K).wpD P W G Q ds := by
  refine ⟨cellsL (l.take j), by rw [cellsL_length, List.length_take]; congr 1; omega, cellsL_one _, fun β ρ w' hM' ad had j' u hu => ?_, h⟩
  subst had
  have h1 := at_begin (hM'.at_ hm) j hj
  rw [pt_pos (k := 0) (by have := cellsL_pos hu; rw [List.length_take] at this; omega)] at h1
  exact h1.cell hu
/-- A call to which an own row is lent, and a number. -/
theorem meetLend {f : FuncId} {i : Nat} {u : Value} {m : M} {k : Value → List Fact → Tree} {r : Row} (v : Value) (hi : m.rows[i]? = some (some r)) (hc : callable P f = true)
    (hC : ∀ β ρ w a c, Mem W G m β ρ w → Sl a r.n c → At w (pt a r.n) r.xs → Calls P f (List.toArray [.slice a r.n c, u]) w fun e w' => e = .returned v ∧ Below w.heap.size w w') (h : (k v []).wpD P W G Q ds) : (Tree.call f [.r i, .v u] m k).wpD P W G Q ds := by
  refine ⟨hc, fun β ρ w vs hm hr => ?_⟩
  obtain ⟨y1, y2, rfl, h1, h2⟩ := hr.two
  have h1 : ρ[i]? = some y1 := h1
  have h2 : y2 = u := h2
  subst h2
  obtain ⟨a, c, rfl, hs, hat⟩ := hm.at_own hi h1
  refine (hC β ρ w a c hm hs ?_).mono fun e w' ⟨he, hb⟩ => ⟨v, [], he, hb, fun φ hφ => (by cases hφ), h⟩
  by_cases h0 : r.n = 0
  · rw [show pt a r.n = none from if_pos h0]; exact fun g hg => by cases hg
  · rw [show pt a r.n = a from if_neg h0]; exact hat
end
theorem gave {W : World} {m : M} {β ρ} {w' : World} {u : Option Addr} {xs : List Value} (n : Nat) (hM : Mem W none m β ρ w') (hm : rowF u xs ∈ m.facts) (hf : Fresh W none u) : ∀ φ ∈ [rowF (pt u n) xs], ∀ g, φ.g = some g → W.heap.size ≤ g ∧ ∃ o, w'.heap[g]? = some o ∧ φ.holds o := by
  intro φ hφ g hg
  simp only [List.mem_singleton] at hφ
  subst hφ
  by_cases h0 : n = 0
  · rw [show rowF (pt u n) xs = rowF none xs by rw [show pt u n = none from if_pos h0]] at hg; cases hg
  · rw [show rowF (pt u n) xs = rowF u xs by rw [show pt u n = u from if_neg h0]] at hg ⊢
    refine ⟨?_, hM.at_ hm g hg⟩
    cases u with
    | none => cases hg
    | some ad =>
      cases hg
      rcases hf ad rfl with h | h
      · exact h
      · cases h
theorem below_best (l : List Tx) (i : Nat) (hi : i < l.length) : (belowI l i = -1 ∧ bestV l i = i) ∨ ∃ k : Nat, belowI l i = (k : Int) ∧ i < k ∧ k < l.length ∧ (betterV (nx l k) (nx l i) = true → bestV l i = k) ∧ (betterV (nx l k) (nx l i) = false → bestV l i = i) := by
  unfold belowI
  by_cases h1 : l.length ≤ 2 * i + 1
  · rw [if_pos h1]
    refine .inl ⟨rfl, ?_⟩
    unfold bestV best1
    rw [if_neg (fun h => by omega), if_neg (fun h => by omega)]
  · rw [if_neg h1]
    by_cases h2 : 2 * i + 2 < l.length ∧ betterV (nx l (2 * i + 2)) (nx l (2 * i + 1)) = true
    · rw [if_pos h2]
      refine .inr ⟨2 * i + 2, by omega, by omega, h2.1, fun hb => ?_, fun hb => ?_⟩
      · unfold bestV best1
        by_cases h3 : betterV (nx l (2 * i + 1)) (nx l i) = true
        · rw [if_pos (show 2 * i + 1 < l.length ∧ _ from ⟨by omega, h3⟩), if_pos h2]
        · rw [if_neg (show ¬(2 * i + 1 < l.length ∧ _) from fun h => h3 h.2), if_pos ⟨h2.1, hb⟩]
      · have h3 : ¬ betterV (nx l (2 * i + 1)) (nx l i) = true := by
          intro h3
          have := ord.better_trans _ _ _ h2.2 h3
          rw [hb] at this
          cases this
        unfold bestV best1
        rw [if_neg (show ¬(2 * i + 1 < l.length ∧ _) from fun h => h3 h.2), if_neg (fun h => by rw [hb] at h; cases h.2)]
    · rw [if_neg h2]
      refine .inr ⟨2 * i + 1, by omega, by omega, by omega, fun hb => ?_, fun hb => ?_⟩
      · unfold bestV best1
        rw [if_pos (show 2 * i + 1 < l.length ∧ _ from ⟨by omega, hb⟩), if_neg h2]
      · unfold bestV best1
        rw [if_neg (show ¬(2 * i + 1 < l.length ∧ _) from fun h => by rw [hb] at h; cases h.2)]
        rw [if_neg]
        rintro ⟨h3, h4⟩
        rcases ord.better_or _ (nx l (2 * i + 1)) _ h4 with h5 | h5
        · exact h2 ⟨h3, h5⟩
        · rw [hb] at h5; cases h5
theorem swp_take {l : List Tx} {k i j : Nat} (hi : i < k) (hj : j < k) : (swp l i j).take k = swp (l.take k) i j := by
  unfold swp
  rw [nx_take hi, nx_take hj, List.take_set, List.take_set]
theorem downGo_take : ∀ (f k : Nat) (l : List Tx) (i : Nat), k ≤ l.length → (i < k ∨ (i = 0 ∧ k = 0)) → (downGo f k l i).take k = downGo f k (l.take k) i
  | 0, k, l, i, _, _ => rfl
  | f + 1, k, l, i, hk, hi => by
    unfold downGo
    rw [List.take_take, Nat.min_self]
    split
    · rfl
    · rename_i hne
      have hc := (bestV_cases (l.take k) i).resolve_left hne
      have hlen : (l.take k).length = k := by rw [List.length_take]; omega
      rw [downGo_take f k _ _ (by rw [swp_length]; exact hk) (.inl (by omega)), swp_take (by omega) (by omega)]
theorem popL_eq (l : List Tx) (h : 2 ≤ l.length) : popL l = downGo (l.length - 1) (l.length - 1) ((l.take (l.length - 1)).set 0 (nx l (l.length - 1))) 0 := by
  unfold popL cutL downL
  rw [downGo_take _ _ _ _ (by simp) (.inl (by omega)), List.take_set]
end Go.Proofs.YtjhopkamfeadjaaDoor.heap
/- Layer 6 (heap): the document's Make, Order, Worst. -/
namespace Go.Proofs.YtjhopkamfeadjaaDoor.heap
open Go.RowKit Sx txn queue
set_option linter.unusedVariables false
set_option linter.unusedSimpArgs false
section
variable {P : Program} {W : World} {G : Option Nat} {Q : Ending → World → Prop} {ds : List Deferred}
/-- A call that answers with a row of its own making. -/
theorem meet1F {f : FuncId} {args : List Sx.T} {l : List Value} {m : M} {k : Value → List Fact → Tree} {n : Nat} {v : Option Addr → Nat → Value} {xs : List Value} (hv : valsOf args = some l) (hc : callable P f = true)
    (hC : ∀ β ρ w, Mem W G m β ρ w → Calls P f (List.toArray l) w fun e w' => ∃ i : One, Sl i.1 n i.2 ∧ Gives w w' e (v i.1 i.2) [rowF (pt i.1 n) xs]) (h : ∀ a c, Sl a n c → (∀ g, (rowF (pt a n) xs).g = some g → W.heap.size ≤ g) → (k (v a c) [rowF (pt a n) xs]).wpD P W G Q ds) : (Tree.call f args m k).wpD P W G Q ds :=
  meetR (ι := One) (ok := fun i => Sl i.1 n i.2 ∧ ∀ g, (rowF (pt i.1 n) xs).g = some g → W.heap.size ≤ g) (v := fun i => v i.1 i.2) (fs := fun i => [rowF (pt i.1 n) xs]) hc (fun β ρ w vs hm hr => by
    rw [valsOf_spec _ _ _ hv hr]
    refine (hC β ρ w hm).mono fun e w' ⟨i, hi, hg⟩ => ⟨i, ⟨hi, fun g hgg => Nat.le_trans hm.grown.size (hg.2.2 _ List.mem_cons_self g hgg).1⟩, hg⟩) (fun i hi => h i.1 i.2 hi.1 hi.2)
end
section
variable {P : Program} {W : World} {G : Option Nat} {Q : Ending → World → Prop} {ds : List Deferred}
/-- Something known of no block may be known, too. -/
theorem loop_learn {body : Code} {m : M} {t : List T} {k : Exit → M → List T → Tree} (φ : Fact) (hφ : ∀ g, φ.g = some g → False) (h : (Tree.loop body (m.learn [φ]) t k).wpD P W G Q ds) : (Tree.loop body m t k).wpD P W G Q ds := by
  intro β ρ a w hm hr hdf
  exact h β ρ a w (hm.learn [φ] fun ψ hψ g hg => by simp only [List.mem_singleton] at hψ; subst hψ; exact (hφ g hg).elim) hr hdf
end
/-- Pushed one by one. -/
def rmk (l : List Tx) : Nat → List Tx
  | 0 => []
  | k + 1 => pushL (rmk l k) (nx l k)
theorem rmk_length (l : List Tx) : ∀ k, (rmk l k).length = k
  | 0 => rfl
  | k + 1 => by unfold rmk; rw [pushL_length, rmk_length l k]
theorem rmk_mem (l : List Tx) : ∀ k, k ≤ l.length → ∀ x ∈ rmk l k, x ∈ l
  | 0, _, x, hx => by simp [rmk] at hx
  | k + 1, hk, x, hx => by
    unfold rmk at hx
    rcases List.mem_append.1 (pushL_mem x hx) with h | h
    · exact rmk_mem l k (by omega) x h
    · simp only [List.mem_singleton] at h; subst h; exact nx_mem (by omega)
theorem upGo_prefix : ∀ (f : Nat) (a b : List Tx) (i : Nat), i < a.length → upGo f (a ++ b) i = upGo f a i ++ b
  | 0, a, b, i, _ => rfl
  | f + 1, a, b, i, hi => by
    unfold upGo
    rw [nx_append hi, nx_append (show (i - 1) / 2 < a.length by omega)]
    split
    · rfl
    · split
      · have e : swp (a ++ b) i ((i - 1) / 2) = swp a i ((i - 1) / 2) ++ b := by
          unfold swp
          rw [nx_append hi, nx_append (show (i - 1) / 2 < a.length by omega), List.set_append_left _ _ hi, List.set_append_left _ _ (by simp; omega)]
        rw [e, upGo_prefix f _ _ _ (by rw [swp_length]; omega)]
      · rfl
theorem makeTo_rmk (l : List Tx) : ∀ k, k ≤ l.length → makeTo l k = rmk l k ++ l.drop k
  | 0, _ => rfl
  | k + 1, hk => by
    have hl := rmk_length l k
    have hx : l.drop k = nx l k :: l.drop (k + 1) := by
      rw [List.drop_eq_getElem_cons (by omega)]
      have := nx_get (l := l) (i := k) (by omega)
      rw [List.getElem?_eq_getElem (by omega)] at this
      rw [Option.some.inj this]
    unfold makeTo rmk
    rw [makeTo_rmk l k (by omega), hx]
    have e : rmk l k ++ nx l k :: l.drop (k + 1) = (rmk l k ++ [nx l k]) ++ l.drop (k + 1) := by simp
    rw [e]
    unfold upL
    rw [upGo_prefix _ _ _ _ (by simp; omega)]
    unfold pushL upL
    simp [hl]
theorem rmk_make (l : List Tx) : rmk l l.length = makeL l := by
  unfold makeL
  rw [makeTo_rmk l _ (Nat.le_refl _)]
  simp
end Go.Proofs.YtjhopkamfeadjaaDoor.heap
/- Layer 6 (heap): the document's Worst. -/
namespace Go.Proofs.YtjhopkamfeadjaaDoor.heap
open Go.RowKit Sx txn queue
set_option linter.unusedVariables false
set_option linter.unusedSimpArgs false
/-- One is better than none of the first ones. -/
def noneTo (l : List Tx) (i k : Nat) : Bool := (List.range k).all fun j => !betterV (nx l i) (nx l j)
theorem noneTo_succ (l : List Tx) (i k : Nat) : noneTo l i (k + 1) = (noneTo l i k && !betterV (nx l i) (nx l k)) := by
  unfold noneTo
  rw [List.range_succ, List.all_append]
  simp
theorem noneTo_iff (l : List Tx) (i k : Nat) : noneTo l i k = true ↔ ∀ j, j < k → betterV (nx l i) (nx l j) = false := by
  unfold noneTo
  simp
theorem worstTo_none (l : List Tx) : ∀ k, 0 < k → noneTo l (worstTo l k) k = true ∧ ∀ j, j < worstTo l k → noneTo l j k = false
  | 0, h => by omega
  | k + 1, _ => by
    rcases Nat.eq_zero_or_pos k with h0 | h0
    · subst h0
      have e : worstTo l 1 = 0 := by unfold worstTo; split <;> rfl
      rw [e]
      refine ⟨(noneTo_iff _ _ _).2 fun j hj => ?_, fun j hj => by omega⟩
      have h0 : j = 0 := by omega
      rw [h0]
      exact ord.better_self _
    · obtain ⟨h1, h2⟩ := worstTo_none l k h0
      rw [noneTo_iff] at h1
      have hlt := worstTo_lt l k
      unfold worstTo
      by_cases hb : betterV (nx l (worstTo l k)) (nx l k) = true
      · rw [if_pos hb]
        refine ⟨(noneTo_iff _ _ _).2 fun j hj => ?_, fun j hj => ?_⟩
        · by_cases hjk : j = k
          · subst hjk; exact ord.better_self _
          · cases hc : betterV (nx l k) (nx l j) with
            | false => rfl
            | true =>
              have := ord.better_trans _ _ _ hb hc
              rw [h1 j (by omega)] at this
              cases this
        · cases hc : noneTo l j (k + 1) with
          | false => rfl
          | true =>
            rw [noneTo_iff] at hc
            rcases ord.better_or _ (nx l j) _ hb with h | h
            · rw [h1 j hj] at h; cases h
            · rw [hc k (by omega)] at h; cases h
      · rw [if_neg hb]
        have hb : betterV (nx l (worstTo l k)) (nx l k) = false := by simpa using hb
        refine ⟨(noneTo_iff _ _ _).2 fun j hj => ?_, fun j hj => ?_⟩
        · by_cases hjk : j = k
          · subst hjk; exact hb
          · exact h1 j (by omega)
        · rw [noneTo_succ, h2 j hj]
          rfl
set_option maxHeartbeats 4000000 in
set_option maxRecDepth 100000 in
theorem rworst_ (l : List Tx) (a : Option Addr) (n c : Nat) (w : World) (hM : Most w) (hs : Sl a n c) (hn : n = l.length) (hl : l.length ≤ 100000) (hd : ∀ x ∈ l, x.d.size ≤ maxLen) (hrow : At w (pt a n) (cellsL l)) :
    Calls Tryd.prog 18 (List.toArray [.slice a n c]) w fun e w' => e = .returned (.tuple #[.int .i64 (worstTo l n : Nat), .bool (decide (0 < n))]) ∧ Below w.heap.size w w' := by
  have hn63 := hs.le
  refine calls_of_exec env_ok Tryd.func18 rfl [(8, (line [0, 1, 2, 3, 4, 5, 6, 7, 8, 9, 10, 11, 12, 13], []))] (schedQ_ok _ _ (by kernel_rfl)) [rowF (pt a n) (cellsL l)] (at1 hrow) ?_
  (conv => arg 5; whnf)
  refine loop_rule env_ok [(8, (line [0, 1, 2, 3, 4, 5, 6, 7, 8, 9, 10, 11, 12, 13], []))] (schedQ_ok _ _ (by kernel_rfl)) (fun i : Nat => i ≤ n ∧ ∀ j, j < i → noneTo l j n = false) (fun i => (⟨[], [], [rowF (pt a n) (cellsL l)]⟩, sl 34 [(0, .v (.slice a n c)), (4, .v (.int .i64 i))])) (fun i => n - i) 0 ⟨Nat.zero_le _, fun j hj => by omega⟩ ⟨by repeat' first | exact trivial | refine ⟨.inl rfl, ?_⟩ | refine ⟨.inr rfl, ?_⟩, ⟨by repeat' first | exact trivial | refine ⟨.inl rfl, ?_⟩ | refine ⟨.inr rfl, ?_⟩, by repeat' first | exact trivial | refine ⟨.inl rfl, ?_⟩ | refine ⟨.inr rfl, ?_⟩, fun _ h => h⟩, rfl⟩ ?_
  rintro i ⟨hi, hno⟩
  (conv => arg 5; whnf)
  refine wp_br (fun h1 => ?_) (fun h1 => ?_)
  · have hlt : i < n := by simp at h1; omega
    have hW := worstTo_none l n (by omega)
    have hWl := worstTo_lt l n
    (conv => arg 5; whnf)
    refine loop_rule env_ok [(8, (line [0, 1, 2, 3, 4, 5, 6, 7, 8, 9, 10, 11, 12, 13], []))] (schedQ_ok _ _ (by kernel_rfl)) (fun k : Nat => k ≤ n) (fun k => (⟨[], [], [rowF (pt a n) (cellsL l)]⟩, sl 34 [(0, .v (.slice a n c)), (4, .v (.int .i64 i)), (5, .v (.bool (noneTo l i k))), (6, .v (.int .i64 k))])) (fun k => n - k) 0 (Nat.zero_le _) ⟨by repeat' first | exact trivial | refine ⟨.inl rfl, ?_⟩ | refine ⟨.inr rfl, ?_⟩, ⟨by repeat' first | exact trivial | refine ⟨.inl rfl, ?_⟩ | refine ⟨.inr rfl, ?_⟩, by repeat' first | exact trivial | refine ⟨.inl rfl, ?_⟩ | refine ⟨.inr rfl, ?_⟩, fun _ h => h⟩, rfl⟩ ?_
    intro k hk
    (conv => arg 5; whnf)
    refine wp_br (fun h2 => ?_) (fun h2 => ?_)
    · have hkl : k < n := by simp at h2; omega
      have hst := noneTo_succ l i k
      have hx := nx_get (l := l) (i := i) (by omega)
      have hy := nx_get (l := l) (i := k) (by omega)
      have hdx := hd _ (nx_mem (l := l) (i := i) (by omega))
      have hdy := hd _ (nx_mem (l := l) (i := k) (by omega))
      (conv => arg 5; whnf)
      refine wp_g1 (fun h3 => ?_) (fun h3 => ?_)
      · (conv => arg 5; whnf)
        refine wp_must ⟨by omega, by omega, hs.some hlt⟩ ?_
        (conv => arg 5; whnf)
        refine readX (l := l) (k := i) rfl List.mem_cons_self hlt (hs.some hlt) hx rfl ?_
        (conv => arg 5; whnf)
        refine wp_must ⟨by omega, by omega, hs.some hkl⟩ ?_
        (conv => arg 5; whnf)
        refine readX (l := l) (k := k) rfl List.mem_cons_self hkl (hs.some hkl) hy rfl ?_
        (conv => arg 5; whnf)
        refine meetc (v := .bool (betterV (nx l i) (nx l k))) rfl (by kernel_rfl) (fun β ρ w' hM' => rbetter (nx l i) (nx l k) w' (hM.later hM'.below) hdx hdy) ?_
        (conv => arg 5; whnf)
        refine wp_must ⟨by omega, by omega⟩ ?_
        (conv => arg 5; whnf)
        refine wp_end ⟨k + 1, hkl, (by rw [hst, h3, Bool.true_and]; exact ⟨by repeat' first | exact trivial | refine ⟨.inl rfl, ?_⟩ | refine ⟨.inr rfl, ?_⟩, ⟨by repeat' first | exact trivial | refine ⟨.inl rfl, ?_⟩ | refine ⟨.inr rfl, ?_⟩, by repeat' first | exact trivial | refine ⟨.inl rfl, ?_⟩ | refine ⟨.inr rfl, ?_⟩, fun _ h => h⟩, rfl⟩), by show n - (k + 1) < n - k; omega⟩
      · (conv => arg 5; whnf)
        refine wp_must ⟨by omega, by omega⟩ ?_
        (conv => arg 5; whnf)
        refine wp_end ⟨k + 1, hkl, (by rw [hst, h3, Bool.false_and]; exact ⟨by repeat' first | exact trivial | refine ⟨.inl rfl, ?_⟩ | refine ⟨.inr rfl, ?_⟩, ⟨by repeat' first | exact trivial | refine ⟨.inl rfl, ?_⟩ | refine ⟨.inr rfl, ?_⟩, by repeat' first | exact trivial | refine ⟨.inl rfl, ?_⟩ | refine ⟨.inr rfl, ?_⟩, fun _ h => h⟩, rfl⟩), by show n - (k + 1) < n - k; omega⟩
    · have hkn : k = n := by simp at h2; omega
      subst hkn
      (conv => arg 5; whnf)
      refine wp_br (fun h3 => ?_) (fun h3 => ?_)
      · have hm : i = worstTo l k := by
          rcases Nat.lt_trichotomy i (worstTo l k) with h | h | h
          · have := hW.2 i h; rw [h3] at this; cases this
          · exact h
          · have := hno _ h; rw [hW.1] at this; cases this
        (conv => arg 5; whnf)
        exact wp_back fun β ρ w' hM' => ⟨by rw [← hm, decide_eq_true (show 0 < k by omega)]; rfl, hM'.below⟩
      · have h3 : noneTo l i k = false := by simpa using h3
        (conv => arg 5; whnf)
        refine wp_must ⟨by omega, by omega⟩ ?_
        (conv => arg 5; whnf)
        refine wp_end ⟨i + 1, ⟨hlt, fun j hj => (by omega : j < i ∨ j = i).elim (fun h => hno j h) (fun h => h ▸ h3)⟩, ⟨by repeat' first | exact trivial | refine ⟨.inl rfl, ?_⟩ | refine ⟨.inr rfl, ?_⟩, ⟨by repeat' first | exact trivial | refine ⟨.inl rfl, ?_⟩ | refine ⟨.inr rfl, ?_⟩, by repeat' first | exact trivial | refine ⟨.inl rfl, ?_⟩ | refine ⟨.inr rfl, ?_⟩, fun _ h => h⟩, rfl⟩, by show k - (i + 1) < k - i; omega⟩
  · have hin : i = n := by simp at h1; omega
    have h0 : n = 0 := by
      rcases Nat.eq_zero_or_pos n with h | h
      · exact h
      · have := hno (worstTo l n) (by have := worstTo_lt l n; omega)
        rw [(worstTo_none l n h).1] at this
        cases this
    subst h0
    (conv => arg 5; whnf)
    exact wp_back fun β ρ w' hM' => ⟨rfl, hM'.below⟩
end Go.Proofs.YtjhopkamfeadjaaDoor.heap
/- Layer 6 (heap): what follows: what a push and a pop keep, that a heap stays one, that an order is one. Plain lists; no memory. -/
namespace Go.Proofs.YtjhopkamfeadjaaDoor.heap
open Go.RowKit Sx txn queue
set_option linter.unusedVariables false
set_option linter.unusedSimpArgs false
abbrev B (x y : Tx) : Prop := betterV x y = true
theorem nB {x y : Tx} : ¬ B x y ↔ betterV x y = false := by simp [B]
theorem B_irrefl (x : Tx) : ¬ B x x := nB.2 (ord.better_self x)
theorem B_trans {x y z : Tx} (h : B x y) (h' : B y z) : B x z := ord.better_trans _ _ _ h h'
theorem B_or {x z : Tx} (y : Tx) (h : B x z) : B x y ∨ B y z := ord.better_or _ y _ h
theorem nB_trans {x y z : Tx} (h : ¬ B x y) (h' : ¬ B y z) : ¬ B x z := fun h2 => (B_or y h2).elim h h'

/-! ### Swaps keep all -/
theorem nx_lt {l : List Tx} {i : Nat} (h : i < l.length) : nx l i = l[i] := by
  have := nx_get h
  rw [List.getElem?_eq_getElem h] at this
  exact (Option.some.inj this).symm
theorem swp_perm {l : List Tx} {i j : Nat} (hi : i < l.length) (hj : j < l.length) : (swp l i j).Perm l := by
  unfold swp
  rw [nx_lt hi, nx_lt hj]
  exact List.set_set_perm hi hj
theorem upGo_perm : ∀ (f : Nat) (l : List Tx) (i : Nat), i < l.length → (upGo f l i).Perm l
  | 0, l, i, _ => List.Perm.refl _
  | f + 1, l, i, hi => by
    unfold upGo
    split
    · exact List.Perm.refl _
    · split
      · exact (upGo_perm f _ _ (by rw [swp_length]; omega)).trans (swp_perm hi (by omega))
      · exact List.Perm.refl _
theorem downGo_perm : ∀ (f k : Nat) (l : List Tx) (i : Nat), k ≤ l.length → (i < k ∨ (i = 0 ∧ k = 0)) → (downGo f k l i).Perm l
  | 0, k, l, i, _, _ => List.Perm.refl _
  | f + 1, k, l, i, hk, hi => by
    unfold downGo
    split
    · exact List.Perm.refl _
    · rename_i hne
      have hc := (bestV_cases (l.take k) i).resolve_left hne
      have hlen : (l.take k).length = k := by rw [List.length_take]; omega
      exact (downGo_perm f k _ _ (by rw [swp_length]; exact hk) (.inl (by omega))).trans (swp_perm (by omega) (by omega))
theorem pushL_perm (l : List Tx) (t : Tx) : (pushL l t).Perm (l ++ [t]) := upGo_perm _ _ _ (by simp)
theorem popL_perm {l : List Tx} (h : 1 ≤ l.length) : (nx l 0 :: popL l).Perm l := by
  rcases (by omega : l.length = 1 ∨ 2 ≤ l.length) with h1 | h2
  · have hp : popL l = [] := List.eq_nil_of_length_eq_zero (by rw [popL_length]; omega)
    obtain ⟨x, rfl⟩ := List.length_eq_one_iff.1 h1
    rw [hp]
    exact List.Perm.refl _
  · rw [popL_eq l h2]
    have hN : (l.take (l.length - 1)).length = l.length - 1 := by rw [List.length_take]; omega
    refine ((downGo_perm _ _ _ 0 (by simp [hN]) (.inl (by omega))).cons _).trans ?_
    cases l with
    | nil => simp at h
    | cons x r =>
      have hr : r ≠ [] := by intro h; rw [h] at h2; simp at h2
      have hrl : 0 < r.length := List.length_pos_iff.2 hr
      have e1 : (x :: r).length - 1 = r.length - 1 + 1 := by simp; omega
      have e2 : nx (x :: r) ((x :: r).length - 1) = r.getLast hr := by
        rw [nx_lt (by simp), List.getLast_eq_getElem]
        simp only [e1, List.getElem_cons_succ]
      have e3 : nx (x :: r) 0 = x := rfl
      rw [e2, e3, e1, List.take_succ_cons, List.set_cons_zero]
      refine List.Perm.cons _ ?_
      have e4 : r.take (r.length - 1) = r.dropLast := List.dropLast_eq_take.symm
      rw [e4]
      have e5 := List.dropLast_concat_getLast hr
      conv => rhs; rw [← e5]
      exact (List.perm_append_singleton _ _).symm

/-! ### A heap stays one -/
theorem heapV_iff (l : List Tx) : heapV l = true ↔ ∀ i, 0 < i → i < l.length → ¬ B (nx l i) (nx l ((i - 1) / 2)) := by
  unfold heapV heapTo
  rw [List.all_eq_true]
  constructor
  · intro h i h0 hi
    have := h i (by simpa using hi)
    simp at this
    rcases this with h1 | h1
    · omega
    · exact nB.2 h1
  · intro h i hi
    simp at hi ⊢
    by_cases h0 : i = 0
    · exact .inl h0
    · exact .inr (nB.1 (h i (by omega) hi))
theorem heap_root {l : List Tx} (h : heapV l = true) : ∀ i, i < l.length → ¬ B (nx l i) (nx l 0) := by
  rw [heapV_iff] at h
  intro i
  induction i using Nat.strongRecOn with
  | ind i ih =>
    intro hi
    by_cases h0 : i = 0
    · subst h0; exact B_irrefl _
    · exact nB_trans (h i (by omega) hi) (ih ((i - 1) / 2) (by omega) (by omega))
theorem nx_swp {l : List Tx} {i j k : Nat} (hi : i < l.length) (hj : j < l.length) (hij : i ≠ j) : nx (swp l i j) k = if k = i then nx l j else if k = j then nx l i else nx l k := by
  unfold swp
  by_cases h1 : k = i
  · subst h1
    rw [if_pos rfl, nx_set_ne (Ne.symm hij), nx_set_self hi]
  · rw [if_neg h1]
    by_cases h2 : k = j
    · subst h2
      rw [if_pos rfl, nx_set_self (by simpa using hj)]
    · rw [if_neg h2, nx_set_ne (Ne.symm h2), nx_set_ne (Ne.symm h1)]
/-- All is a heap but for who rises from place i. -/
def UpOk (l : List Tx) (i : Nat) : Prop := (∀ j, 0 < j → j < l.length → j ≠ i → ¬ B (nx l j) (nx l ((j - 1) / 2))) ∧ ∀ j, 0 < j → j < l.length → (j - 1) / 2 = i → 0 < i → ¬ B (nx l j) (nx l ((i - 1) / 2))
theorem up_heap : ∀ (i : Nat) (l : List Tx), i < l.length → UpOk l i → heapV (upGo (i + 1) l i) = true := by
  intro i
  induction i using Nat.strongRecOn with
  | ind i ih =>
    intro l hi ⟨h1, h2⟩
    by_cases h0 : i = 0
    · rw [upGo_stop l i (.inl h0), heapV_iff]
      exact fun j hj hl => h1 j hj hl (by omega)
    · cases hb : betterV (nx l i) (nx l ((i - 1) / 2)) with
      | false =>
        rw [upGo_stop l i (.inr hb), heapV_iff]
        intro j hj hl
        by_cases hji : j = i
        · subst hji; exact nB.2 hb
        · exact h1 j hj hl hji
      | true =>
        rw [upGo_step l i (by omega) hb]
        have hp : (i - 1) / 2 < i := by omega
        have hpl : (i - 1) / 2 < l.length := by omega
        have N := fun k => nx_swp (l := l) (i := i) (j := (i - 1) / 2) (k := k) hi hpl (by omega)
        refine ih _ hp _ (by rw [swp_length]; exact hpl) ⟨fun j hj hl hjp => ?_, fun j hj hl hjp h0p => ?_⟩
        · rw [swp_length] at hl
          rw [N, N]
          by_cases hji : j = i
          · rw [if_pos hji, if_neg (by omega), if_pos (by rw [hji])]
            exact fun h => B_irrefl _ (B_trans hb h)
          · rw [if_neg hji, if_neg hjp]
            by_cases hq : (j - 1) / 2 = i
            · rw [if_pos hq]
              exact h2 j hj hl hq (by omega)
            · rw [if_neg hq]
              by_cases hq2 : (j - 1) / 2 = (i - 1) / 2
              · rw [if_pos hq2]
                refine fun h => h1 j hj hl hji ?_
                rw [hq2]
                exact B_trans h hb
              · rw [if_neg hq2]
                exact h1 j hj hl hji
        · rw [swp_length] at hl
          rw [N, N, if_neg (show ((i - 1) / 2 - 1) / 2 ≠ i by omega), if_neg (show ((i - 1) / 2 - 1) / 2 ≠ (i - 1) / 2 by omega)]
          have hpp := h1 ((i - 1) / 2) h0p hpl (by omega)
          by_cases hji : j = i
          · rw [if_pos hji]; exact hpp
          · rw [if_neg hji, if_neg (by omega)]
            have hj2 := h1 j hj hl hji
            rw [hjp] at hj2
            exact nB_trans hj2 hpp
theorem push_heap {l : List Tx} (t : Tx) (h : heapV l = true) : heapV (pushL l t) = true := by
  rw [heapV_iff] at h
  have e : pushL l t = upGo (l.length + 1) (l ++ [t]) l.length := by unfold pushL upL; simp
  rw [e]
  refine up_heap l.length _ (by simp) ⟨fun j hj hl hne => ?_, fun j hj hl hjp _ => ?_⟩
  · have hjl : j < l.length := by simp at hl; omega
    rw [nx_append hjl, nx_append (by omega)]
    exact h j hj hjl
  · simp at hl; omega
theorem make_heap (l : List Tx) : heapV (makeL l) = true := by
  rw [← rmk_make l]
  have : ∀ k, heapV (rmk l k) = true := by
    intro k
    induction k with
    | zero => rfl
    | succ k ih => exact push_heap _ ih
  exact this _
/-- All is a heap but for who sinks from place i. -/
def DownOk (l : List Tx) (i : Nat) : Prop := (∀ j, 0 < j → j < l.length → (j - 1) / 2 ≠ i → ¬ B (nx l j) (nx l ((j - 1) / 2))) ∧ ∀ j, 0 < j → j < l.length → (j - 1) / 2 = i → 0 < i → ¬ B (nx l j) (nx l ((i - 1) / 2))
theorem bestV_not {l : List Tx} {i : Nat} (h : bestV l i = i) : ∀ j, 0 < j → j < l.length → (j - 1) / 2 = i → ¬ B (nx l j) (nx l i) := by
  intro j hj hl hji
  have h1 : best1 l i = i := by
    unfold bestV at h
    split at h
    · omega
    · exact h
  rcases (by omega : j = 2 * i + 1 ∨ j = 2 * i + 2) with rfl | rfl
  · intro hb
    unfold best1 at h1
    rw [if_pos ⟨hl, hb⟩] at h1
    omega
  · intro hb
    unfold bestV at h
    rw [h1, if_pos ⟨hl, hb⟩] at h
    omega
theorem bestV_is {l : List Tx} {i b : Nat} (h : bestV l i = b) (hne : b ≠ i) : (b - 1) / 2 = i ∧ 0 < b ∧ b < l.length ∧ B (nx l b) (nx l i) ∧ ∀ j, 0 < j → j < l.length → (j - 1) / 2 = i → ¬ B (nx l j) (nx l b) := by
  have h1 : best1 l i = 2 * i + 1 ∧ 2 * i + 1 < l.length ∧ B (nx l (2 * i + 1)) (nx l i) ∨ best1 l i = i ∧ (2 * i + 1 < l.length → ¬ B (nx l (2 * i + 1)) (nx l i)) := by
    unfold best1
    split
    · rename_i h; exact .inl ⟨rfl, h⟩
    · rename_i h; exact .inr ⟨rfl, fun h1 h2 => h ⟨h1, h2⟩⟩
  unfold bestV at h
  split at h
  · rename_i h2
    subst h
    rcases h1 with ⟨e, h3, h4⟩ | ⟨e, h3⟩
    · rw [e] at h2
      refine ⟨by omega, by omega, h2.1, B_trans h2.2 h4, fun j hj hl hji => ?_⟩
      rcases (by omega : j = 2 * i + 1 ∨ j = 2 * i + 2) with rfl | rfl
      · exact fun h => B_irrefl _ (B_trans h2.2 h)
      · exact B_irrefl _
    · rw [e] at h2
      refine ⟨by omega, by omega, h2.1, h2.2, fun j hj hl hji => ?_⟩
      rcases (by omega : j = 2 * i + 1 ∨ j = 2 * i + 2) with rfl | rfl
      · exact fun h => h3 hl (B_trans h h2.2)
      · exact B_irrefl _
  · rename_i h2
    rcases h1 with ⟨e, h3, h4⟩ | ⟨e, h3⟩
    · rw [e] at h h2
      subst h
      refine ⟨by omega, by omega, h3, h4, fun j hj hl hji => ?_⟩
      rcases (by omega : j = 2 * i + 1 ∨ j = 2 * i + 2) with rfl | rfl
      · exact B_irrefl _
      · exact fun h => h2 ⟨hl, h⟩
    · exact absurd (h.symm.trans e) hne
theorem down_heap : ∀ (n i : Nat) (l : List Tx), l.length - i = n → i < l.length → DownOk l i → heapV (downGo (l.length - i) l.length l i) = true := by
  intro n
  induction n using Nat.strongRecOn with
  | ind n ih =>
    intro i l hn hi ⟨h1, h2⟩
    have htk : l.take l.length = l := List.take_length
    by_cases hb : bestV l i = i
    · rw [downGo_stop l.length l i (by rw [htk]; exact hb), heapV_iff]
      intro j hj hl
      by_cases hji : (j - 1) / 2 = i
      · rw [hji]; exact bestV_not hb j hj hl hji
      · exact h1 j hj hl hji
    · have hs := downGo_step l.length l i (by rw [htk]; exact hb)
      rw [htk] at hs
      rw [hs]
      obtain ⟨e1, e2, e3, e4, e5⟩ := bestV_is rfl hb
      generalize bestV l i = b at *
      have hls : (swp l i b).length = l.length := swp_length _ _ _
      have N := fun k => nx_swp (l := l) (i := i) (j := b) (k := k) hi e3 (by omega)
      have := ih (l.length - b) (by omega) b (swp l i b) (by rw [hls]) (by rw [hls]; exact e3) ⟨fun j hj hl hjb => ?_, fun j hj hl hjb _ => ?_⟩
      · rw [hls] at this; exact this
      · rw [hls] at hl
        rw [N, N, if_neg hjb]
        by_cases hji : (j - 1) / 2 = i
        · rw [if_pos hji, if_neg (show j ≠ i by omega)]
          by_cases hjb2 : j = b
          · rw [if_pos hjb2]; exact fun h => B_irrefl _ (B_trans h e4)
          · rw [if_neg hjb2]; exact e5 j hj hl hji
        · rw [if_neg hji]
          by_cases hj2 : j = i
          · rw [if_pos hj2]
            subst hj2
            exact h2 b (by omega) e3 e1 hj
          · rw [if_neg hj2, if_neg (show j ≠ b by rintro rfl; exact hji e1)]
            exact h1 j hj hl hji
      · rw [hls] at hl
        rw [N, N, e1, if_pos rfl, if_neg (show j ≠ i by omega), if_neg (show j ≠ b by omega)]
        have := h1 j hj hl (by omega)
        rw [hjb] at this
        exact this
theorem pop_heap {l : List Tx} (h : heapV l = true) : heapV (popL l) = true := by
  rcases (by omega : l.length ≤ 1 ∨ 2 ≤ l.length) with h1 | h2
  · have hp : popL l = [] := List.eq_nil_of_length_eq_zero (by rw [popL_length]; omega)
    rw [hp]; rfl
  · rw [heapV_iff] at h
    rw [popL_eq l h2]
    have hN : ((l.take (l.length - 1)).set 0 (nx l (l.length - 1))).length = l.length - 1 := by simp
    have := down_heap (l.length - 1) 0 ((l.take (l.length - 1)).set 0 (nx l (l.length - 1))) (by rw [hN]; rfl) (by rw [hN]; omega) ⟨fun j hj hl hj0 => ?_, fun j hj hl hj0 h0 => by omega⟩
    · rw [hN] at this; exact this
    · rw [hN] at hl
      rw [nx_set_ne (by omega), nx_set_ne (by omega), nx_take hl, nx_take (by omega)]
      exact h j hj (by omega)

/-! ### An order -/
theorem ordGo_perm : ∀ (f : Nat) (l : List Tx), l.length = f → (ordGo f l).Perm l
  | 0, l, h => by rw [List.eq_nil_of_length_eq_zero h]; exact List.Perm.refl _
  | f + 1, l, h => by
    unfold ordGo
    have hp := popL_length l
    exact ((ordGo_perm f (popL l) (by omega)).cons _).trans (popL_perm (by omega))
theorem makeL_perm (l : List Tx) : (makeL l).Perm l := by
  have : ∀ k, k ≤ l.length → (makeTo l k).Perm l := by
    intro k
    induction k with
    | zero => intro _; exact List.Perm.refl _
    | succ k ih =>
      intro hk
      unfold makeTo upL
      exact (upGo_perm _ _ _ (by rw [makeTo_length]; omega)).trans (ih (by omega))
  exact this _ (Nat.le_refl _)
theorem ordL_perm (l : List Tx) : (ordL l).Perm l := (ordGo_perm _ _ (makeL_length l)).trans (makeL_perm l)
theorem ordGo_sorted : ∀ (f : Nat) (l : List Tx), l.length = f → heapV l = true → (ordGo f l).Pairwise fun x y => ¬ B y x
  | 0, l, _, _ => List.Pairwise.nil
  | f + 1, l, h, hh => by
    unfold ordGo
    have hp := popL_length l
    refine List.Pairwise.cons (fun y hy => ?_) (ordGo_sorted f (popL l) (by omega) (pop_heap hh))
    have hy1 := (ordGo_perm f (popL l) (by omega)).mem_iff.1 hy
    have hy2 : y ∈ l := popL_mem (by intro h0; rw [h0] at h; simp at h) y hy1
    obtain ⟨k, hk, rfl⟩ := List.getElem_of_mem hy2
    rw [← nx_lt hk]
    exact heap_root hh k hk
theorem ordL_sorted (l : List Tx) : (ordL l).Pairwise fun x y => ¬ B y x := ordGo_sorted _ _ (makeL_length l) (make_heap l)
theorem worst_all {l : List Tx} (h : 0 < l.length) : (∀ x ∈ l, ¬ B (nx l (worstTo l l.length)) x) ∧ ∀ j, j < worstTo l l.length → B (nx l j) (nx l (worstTo l l.length)) := by
  obtain ⟨h1, h2⟩ := worstTo_none l l.length h
  have hlt := worstTo_lt l l.length
  rw [noneTo_iff] at h1
  refine ⟨fun x hx => ?_, fun j hj => ?_⟩
  · obtain ⟨k, hk, rfl⟩ := List.getElem_of_mem hx
    rw [← nx_lt hk]
    exact nB.2 (h1 k hk)
  · have h3 := h2 j hj
    unfold noneTo at h3
    rw [List.all_eq_false] at h3
    obtain ⟨k, hk, hb⟩ := h3
    have hb : B (nx l j) (nx l k) := by simpa using hb
    rcases B_or (nx l (worstTo l l.length)) hb with h | h
    · exact h
    · exact absurd h (nB.2 (h1 k (by simpa using hk)))
end Go.Proofs.YtjhopkamfeadjaaDoor.heap
