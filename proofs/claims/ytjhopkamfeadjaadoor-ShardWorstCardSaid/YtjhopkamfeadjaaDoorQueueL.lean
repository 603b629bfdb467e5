/- Layer 5 (queue): the library's functions over rows of transactions that it calls: Clone, Grow. -/
import Derived.Test.YtjhopkamfeadjaaDoorQueueB
import Derived.Test.YtjhopkamfeadjaaDoorSxF
import Derived.Lib.SliceRun
namespace Go.Proofs.YtjhopkamfeadjaaDoor.queue
open Go.RowKit Sx txn
set_option linter.unusedVariables false
set_option linter.unusedSimpArgs false

set_option maxHeartbeats 2000000 in
set_option maxRecDepth 100000 in
theorem clone (l : List Tx) (a : Option Addr) (n c : Nat) (w : World) (hs : Sl a n c) (hn : n = l.length) (hrow : At w (pt a n) (cellsL l)) (hl : l.length ≤ 1000000) :
    Calls Tryd.prog 45 #[.slice a n c] w fun e w' => ∃ v, e = .returned v ∧ Below w.heap.size w w' ∧ w'.ownsRow w.heap.size 32 6 v n (cellsL l) := by
  refine calls_of_row env_ok Tryd.func45 rfl [] (by kernel_rfl) (n := 2) rfl [.v (.slice a n c)] ⟨[], [], [rowF (pt a n) (cellsL l)]⟩ [] (mem_plain _ (at1 hrow)) (Rels.vals [.slice a n c]) ?_
  refine wp_prim (.bool a.isNone) (fun w => by simp [eqGuard, Lib.run_eql_slice_nil w _ _ a n c 0 0 Tryd.underlying38]) ?_
  refine wp_br (fun h1 => ?_) (fun h1 => ?_)
  · cases a with
    | some _ => cases h1
    | none =>
      have h0 := (hs.2.2 rfl).1
      exact wp_back fun β ρ w' hM' => ⟨_, rfl, hM'.below, by
        have hl0 : l = [] := List.eq_nil_of_length_eq_zero (by omega)
        subst hl0
        exact ⟨by simp [cellsL, h0], .inl ⟨rfl, h0⟩⟩⟩
  · refine ⟨cellsL l, by rw [cellsL_length, hn], cellsL_one l, fun β ρ w' hM' ad had j u hu => ?_, ?_⟩
    · subst had
      have h1 := hM'.at_ List.mem_cons_self
      rw [pt_pos (k := 0) (by have := cellsL_pos hu; omega)] at h1
      exact h1.cell hu
    · refine wp_must ⟨by show 0 + n ≤ maxLen; unfold maxLen; omega, by show (0 + n) * 56 ≤ 140737488355328; omega, fun ha => hs.2.2 ha⟩ ?_
      refine wp_end (fun β ρ w' v hM' hv => ⟨v, rfl, hM'.below, ?_⟩)
      have := hM'.mine (i := 0) (r := ⟨32, 6, 0 + n, [] ++ cellsL l⟩) rfl hv
      simpa using this

def idx (p : Tx → Bool) : List Tx → Nat → Int
  | [], _ => -1
  | x :: l, k => if p x then k else idx p l (k + 1)
theorem idx_drop (p : Tx → Bool) (l : List Tx) (k : Nat) (x : Tx) (h : l[k]? = some x) : idx p (l.drop k) k = if p x then (k : Int) else idx p (l.drop (k + 1)) (k + 1) := by
  obtain ⟨h1, h2⟩ := List.getElem?_eq_some_iff.1 h
  rw [List.drop_eq_getElem_cons h1, h2]
  rfl
structure Pt where
  a : Option Addr
  n : Nat
  c : Nat
  l : List Tx
def Pt.v (q : Pt) : Value := .slice q.a q.n q.c
def flat (ps : List Pt) : List Tx := ps.flatMap Pt.l
theorem flat_take (ps : List Pt) (k : Nat) (q : Pt) (h : ps[k]? = some q) : flat (ps.take (k + 1)) = flat (ps.take k) ++ q.l := by
  rw [List.take_add_one, h]
  simp [flat]
end Go.Proofs.YtjhopkamfeadjaaDoor.queue
