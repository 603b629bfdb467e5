/- Layer 6 (heap): who is swapped. -/
import Derived.Test.YtjejjgoagjkfdaaDoorHeap
namespace Go.Proofs.YtjejjgoagjkfdaaDoor.heap
open Go.RowKit Sx txn queue
set_option linter.unusedVariables false
set_option linter.unusedSimpArgs false
def swp (l : List Tx) (i j : Nat) : List Tx := (l.set i (nx l j)).set j (nx l i)
theorem swp_length (l : List Tx) (i j : Nat) : (swp l i j).length = l.length := by simp [swp]
theorem spl_append {α : Type} (a b c : List α) (o : Nat) (h : o + c.length ≤ a.length) : spl (a ++ b) o c = spl a o c ++ b := by
  unfold spl
  rw [List.take_append_of_le_length (by omega), List.drop_append_of_le_length h]
  simp
theorem set_cells (l : List Tx) (i : Nat) (x : Tx) (h : i < l.length) : spl (cellsL l) (i * 6) (cellsX x) = cellsL (l.set i x) := by
  have hl := cellsL_length l
  apply List.ext_getElem?
  intro j
  unfold spl
  have e6 : (cellsX x).length = 6 := rfl
  induction l generalizing i j with
  | nil => simp at h
  | cons y l ih =>
    cases i with
    | zero => simp [cellsL, cellsX]
    | succ i =>
      have ih := ih i (by simpa using h) (cellsL_length l)
      have e : cellsL (y :: l) = cellsX y ++ cellsL l := by simp [cellsL]
      have e' : cellsL ((y :: l).set (i + 1) x) = cellsX y ++ cellsL (l.set i x) := by simp [cellsL]
      rw [e, e', show (i + 1) * 6 = (cellsX y).length + i * 6 by simp [cellsX]; omega, List.take_append, List.drop_append]
      simp only [Nat.add_sub_cancel_left, show (cellsX y).length + i * 6 + (cellsX x).length - (cellsX y).length = i * 6 + (cellsX x).length by omega]
      rw [List.take_of_length_le (by omega), List.drop_eq_nil_of_le (by omega), List.nil_append, List.append_assoc, List.append_assoc]
      rcases Nat.lt_or_ge j (cellsX y).length with hj | hj
      · rw [List.getElem?_append_left hj, List.getElem?_append_left hj]
      · rw [List.getElem?_append_right hj, List.getElem?_append_right hj]
        have := ih (j - (cellsX y).length)
        rw [List.append_assoc] at this
        exact this
theorem cellsX_one (x : Tx) : ∀ z ∈ (x.val.cells).toList, z.oneCell' = true := by
  intro z hz
  simp [Tx.val, Value.cells] at hz
  rcases hz with rfl | rfl | rfl | rfl | rfl | rfl <;> rfl
/-- A store of a transaction into a block that is known. -/
theorem op_put {W : World} {G : Option Nat} {Q : Ending → World → Prop} {ds : List Deferred} {o : Oper} {m : M} {t : List T} {k : M → List T → T → Tree} {x y : Operand} {ad : Addr} {u : Tx} {g i : Nat} {l : List Tx} {rest : List Value}
    (ho : o.op = .store 28 x y) (hx : ev t x = .v (.pointer (some ad))) (had : ad = ⟨g, i * 6, none⟩) (hy : ev t y = .v u.val) (hm : blkF g l rest ∈ m.facts) (hW : W.heap.size ≤ g ∨ some g = G) (hi : i < l.length)
    (h : (k { m with facts := [blkF g (l.set i u) rest] } t (.v undef)).wpD Tryd.prog W G Q ds) : (Tree.op none o m t k).wpD Tryd.prog W G Q ds := by
  refine op_store (g := g) (off := i * 6) ho hx had hy (by kernel_rfl) (cellsX_one u) fun β ρ w hM => ?_
  have hb := blk hM hm
  have hl := cellsL_length l
  refine ⟨_, _, hb, ?_, fun w' hgr hh => ⟨_, hM.turn hm rfl hW hgr (fs := [blkF g (l.set i u) rest]) ?_, h⟩⟩
  · simp only [List.size_toArray, List.length_append, Tx.val, Value.cells]
    simp
    omega
  · intro ψ hψ
    simp only [List.mem_singleton] at hψ
    subst hψ
    refine .inr ⟨rfl, _, hh, ?_⟩
    show Obj.cells _ _ _ = Obj.cells _ _ _
    congr 2
    rw [List.toList_toArray, spl_append _ _ _ _ (by simp [Tx.val, Value.cells]; omega)]
    have := set_cells l i u hi
    rw [show u.val.cells.toList = cellsX u from rfl, this]
set_option maxHeartbeats 2000000 in
set_option maxRecDepth 100000 in
theorem swap_ (l : List Tx) (rest : List Value) (g n c i j : Nat) (w : World) (hb : Blk w g l rest) (hs : Sl (some ⟨g, 0, none⟩) n c) (hnl : n ≤ l.length) (hi : i < n) (hj : j < n) :
    Calls Tryd.prog 126 (List.toArray [.slice (some ⟨g, 0, none⟩) n c, .int .i64 i, .int .i64 j]) w fun e w' => e = .returned (.tuple #[]) ∧ w.grownBy w' (some g) ∧ Blk w' g (swp l i j) rest := by
  have hn63 := hs.le
  have hF : ∀ φ ∈ [blkF g l rest, rowF (pt (some ⟨g, 0, none⟩) n) (cellsL (l.take n))], ∀ g', φ.g = some g' → ∃ o, w.heap[g']? = some o ∧ φ.holds o := by
    intro φ hφ
    simp only [List.mem_cons, List.not_mem_nil, or_false] at hφ
    rcases hφ with rfl | rfl
    · exact hb.facts _ (by simp)
    · exact hb.view n
  have hx : (l.take n)[i]? = some (nx l i) := by rw [List.getElem?_take, if_pos hi]; exact nx_get (by omega)
  have hy : (l.take n)[j]? = some (nx l j) := by rw [List.getElem?_take, if_pos hj]; exact nx_get (by omega)
  unfold swp
  generalize nx l i = x at *
  generalize nx l j = y at *
  refine calls_of_turn env_ok Tryd.func126 rfl [(0, (lineT [0, 1, 2, 3, 4, 5, 6, 7, 8, 9, 10, 11, 12] [13, 14, 15], []))] (schedQ_ok _ _ (by kernel_rfl)) (some g) [blkF g l rest, rowF (pt (some ⟨g, 0, none⟩) n) (cellsL (l.take n))] hF ?_
  (conv => arg 5; whnf)
  refine wp_must ⟨by omega, by omega, rfl⟩ ?_
  (conv => arg 5; whnf)
  refine readX (l := l.take n) (k := j) rfl (.tail _ (.head _)) hj rfl hy rfl ?_
  (conv => arg 5; whnf)
  refine wp_must ⟨by omega, by omega, rfl⟩ ?_
  (conv => arg 5; whnf)
  refine readX (l := l.take n) (k := i) rfl (.tail _ (.head _)) hi rfl hx rfl ?_
  (conv => arg 5; whnf)
  refine wp_must ⟨by omega, by omega, rfl⟩ ?_
  (conv => arg 5; whnf)
  refine op_put (u := y) (i := i) (l := l) rfl rfl (by show (⟨g, 0, none⟩ : Addr).add (i * 6) = _; rw [add_mk, Nat.zero_add]) rfl (.head _) (.inr rfl) (by omega) ?_
  (conv => arg 5; whnf)
  refine wp_must ⟨by omega, by omega, rfl⟩ ?_
  (conv => arg 5; whnf)
  refine op_put (u := x) (i := j) (l := l.set i y) rfl rfl (by show (⟨g, 0, none⟩ : Addr).add (j * 6) = _; rw [add_mk, Nat.zero_add]) rfl (.head _) (.inr rfl) (by simp; omega) ?_
  (conv => arg 5; whnf)
  exact wp_back fun β ρ w' hM' => ⟨rfl, hM'.grown, blk hM' (.head _)⟩
end Go.Proofs.YtjejjgoagjkfdaaDoor.heap
