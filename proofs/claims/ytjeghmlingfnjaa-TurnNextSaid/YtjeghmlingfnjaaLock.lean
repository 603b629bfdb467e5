/- Layer 9 (lock), by contract: the program's functions, and the document's. -/
import Derived.Test.YtjeghmlingfnjaaGive
import Derived.Lib.SliceRun
namespace Go.Proofs.Ytjeghmlingfnjaa.lock
open Go.RowKit Sx
set_option linter.unusedVariables false
set_option linter.unusedSimpArgs false

def ic (l : List Int) : List Value := l.map (Value.int .i64)
theorem ic_length (l : List Int) : (ic l).length = l.length := by simp [ic]
theorem ic_one (l : List Int) : ∀ u ∈ ic l, u.oneCell' = true := by
  intro u hu
  obtain ⟨z, _, rfl⟩ := List.mem_map.1 hu
  rfl
theorem ic_get {l : List Int} {k : Nat} {x : Int} (h : l[k]? = some x) : (ic l)[k]? = some (.int .i64 x) := by simp [ic, h]
theorem ic_app (l m : List Int) : ic (l ++ m) = ic l ++ ic m := by simp [ic]
def hasB (l : List Int) (i : Int) : Bool := decide (0 ≤ i ∧ i < l.length)
def at_ (l : List Int) (i : Int) : Int := l[i.toNat]?.getD 0
def freeB (l : List Int) (i : Int) : Bool := hasB l i && (at_ l i == 0)
def holdsB (l : List Int) (i who : Int) : Bool := decide (who ≥ 1) && (at_ l i == who)
def takeE (l : List Int) (i who : Int) : Int := bif !(hasB l i) || !decide (who ≥ 1) then 1 else bif at_ l i == 0 then 0 else 6
def giveE (l : List Int) (i who : Int) : Int := bif !(hasB l i) || !decide (who ≥ 1) then 1 else bif at_ l i == who then 0 else 7
def withV (l : List Int) (i x : Int) : List Int := l.set i.toNat x
def takeV (l : List Int) (i who : Int) : List Int := bif takeE l i who == 0 then withV l i who else l
def giveV (l : List Int) (i who : Int) : List Int := bif giveE l i who == 0 then withV l i 0 else l
theorem has_iff {l : List Int} {i : Int} : hasB l i = true ↔ 0 ≤ i ∧ i < l.length := by simp [hasB]
theorem at_get {l : List Int} {i : Int} (h : 0 ≤ i ∧ i < l.length) : l[i.toNat]? = some (at_ l i) := by
  have : i.toNat < l.length := by omega
  simp [at_, this]
theorem with_length (l : List Int) (i x : Int) : (withV l i x).length = l.length := by simp [withV]
theorem take_length (l : List Int) (i x : Int) : (takeV l i x).length = l.length := by unfold takeV; cases takeE l i x == 0 <;> simp [withV]
theorem give_length (l : List Int) (i x : Int) : (giveV l i x).length = l.length := by unfold giveV; cases giveE l i x == 0 <;> simp [withV]
theorem spl_set (l : List Int) (i : Nat) (x : Int) (h : i < l.length) : spl (ic l) i [.int .i64 x] = ic (l.set i x) := by
  unfold spl ic
  rw [List.set_eq_take_append_cons_drop, if_pos h]
  simp [List.map_take, List.map_drop]

section
variable (l : List Int) (a : Option Addr) (n c : Nat) (w : World)

theorem has (i : Int) (hs : Sl a n c) (hn : n = l.length) : Calls Try.prog 56 (List.toArray [.slice a n c, .int .i64 i]) w fun e w' => e = .returned (.bool (hasB l i)) ∧ Below w.heap.size w w' := by
  refine calls_of_exec env_ok Try.func56 rfl [] (by kernel_rfl) [] (by simp) ?_
  repeat' (first
    | (refine wp_g1 (fun h => ?_) (fun h => ?_))
    | exact wp_back fun β ρ w' hM => ⟨retB (by rw [Bool.eq_iff_iff]; simp [hasB] at *; omega), hM.below⟩)
theorem somebody (who : Int) : Calls Try.prog 57 (List.toArray [.int .i64 who]) w fun e w' => e = .returned (.bool (decide (who ≥ 1))) ∧ Below w.heap.size w w' := by
  refine calls_of_exec env_ok Try.func57 rfl [] (by kernel_rfl) [] (by simp) ?_
  exact wp_back fun β ρ w' hM => ⟨rfl, hM.below⟩
set_option maxHeartbeats 2000000 in
set_option maxRecDepth 100000 in
theorem clone (hs : Sl a n c) (hn : n = l.length) (hrow : At w (pt a n) (ic l)) (hl : l.length ≤ 1000000) :
    Calls Try.prog 58 #[.slice a n c] w fun e w' => ∃ v, e = .returned v ∧ Below w.heap.size w w' ∧ w'.ownsRow w.heap.size 3 1 v n (ic l) := by
  refine calls_of_row env_ok Try.func58 rfl [] (by kernel_rfl) (n := 2) rfl [.v (.slice a n c)] ⟨[], [], [rowF (pt a n) (ic l)]⟩ [] (mem_plain _ (at1 hrow)) (Rels.vals [.slice a n c]) ?_
  refine wp_prim (.bool a.isNone) (fun w => by simp [eqGuard, Lib.run_eql_slice_nil w _ _ a n c 0 0 Try.underlying54]) ?_
  refine wp_br (fun h1 => ?_) (fun h1 => ?_)
  · cases a with
    | some _ => cases h1
    | none =>
      have h0 := (hs.2.2 rfl).1
      exact wp_back fun β ρ w' hM' => ⟨_, rfl, hM'.below, by
        have hl0 : l = [] := List.eq_nil_of_length_eq_zero (by omega)
        subst hl0
        exact ⟨by simp [ic, h0], .inl ⟨rfl, h0⟩⟩⟩
  · refine ⟨ic l, by rw [ic_length, hn]; omega, ic_one l, fun β ρ w' hM' ad had j u hu => ?_, ?_⟩
    · subst had
      have h1 := hM'.at_ List.mem_cons_self
      rw [pt_pos (k := 0) (by have := (List.getElem?_eq_some_iff.1 hu).1; rw [ic_length] at this; omega)] at h1
      exact h1.cell hu
    · refine wp_must ⟨by show 0 + n ≤ maxLen; unfold maxLen; omega, by show (0 + n) * 8 ≤ 140737488355328; omega, fun ha => hs.2.2 ha⟩ ?_
      refine wp_end (fun β ρ w' v hM' hv => ⟨v, rfl, hM'.below, ?_⟩)
      have := hM'.mine (i := 0) (r := ⟨3, 1, 0 + n, [] ++ ic l⟩) rfl hv
      simpa using this
end
end Go.Proofs.Ytjeghmlingfnjaa.lock
