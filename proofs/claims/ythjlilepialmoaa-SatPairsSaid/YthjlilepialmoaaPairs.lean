/- Lists of pairs: their cells, and what Totals makes of them. -/
import Derived.Test.YthjlilepialmoaaSatTotalsWalk
namespace Go.Proofs.Ythjlilepialmoaa.sat
open Go.RowKit Go.ChangeShapes Go.WideShapes
set_option linter.unusedVariables false

abbrev PL := List (Int × Int)
def cellsL (L : PL) : List Value := L.flatMap fun p => [.int .i64 p.1, .int .i64 p.2]
def Lx (L : PL) : Nat → Int := fun i => (L.getD i (0, 0)).1
def Ly (L : PL) : Nat → Int := fun i => (L.getD i (0, 0)).2
def sumL (f : Int × Int → Int) (L : PL) : Int := (L.map f).sum
def okL (L : PL) : Prop := L.length ≤ 1000 ∧ ∀ p ∈ L, (0 ≤ p.1 ∧ p.1 ≤ 1099511627776) ∧ (0 ≤ p.2 ∧ p.2 ≤ 1099511627776)

theorem cellsL_cons (p : Int × Int) (L : PL) : cellsL (p :: L) = .int .i64 p.1 :: .int .i64 p.2 :: cellsL L := rfl
theorem cellsL_append (L M : PL) : cellsL (L ++ M) = cellsL L ++ cellsL M := by simp [cellsL]
theorem cellsL_len (L : PL) : (cellsL L).length = L.length * 2 := by
  induction L with
  | nil => rfl
  | cons p L ih => rw [cellsL_cons]; simp [ih]; omega

theorem cellsL_at (L : PL) (i : Nat) (hi : i < L.length) : (cellsL L)[i * 2]? = some (.int .i64 (Lx L i)) ∧ (cellsL L)[i * 2 + 1]? = some (.int .i64 (Ly L i)) := by
  induction L generalizing i with
  | nil => simp at hi
  | cons p L ih =>
    cases i with
    | zero => exact ⟨rfl, rfl⟩
    | succ i =>
      have h := ih i (by simpa using hi)
      rw [cellsL_cons, show (i + 1) * 2 = i * 2 + 2 from by omega]
      exact h

theorem cellsL_one (L : PL) : ∀ u ∈ cellsL L, u.oneCell' = true := by
  intro u hu
  simp only [cellsL, List.mem_flatMap] at hu
  obtain ⟨p, _, hu⟩ := hu
  simp at hu
  rcases hu with rfl | rfl <;> rfl

/-- What is owned, as a row. -/
theorem row_of_owns {w : World} {base : Nat} {e : TypeId} {v : Value} {L : PL} (h : w.ownsRow base e 2 v L.length (cellsL L)) : ∃ a cap, v = .slice a L.length cap ∧ Row w a L.length (Lx L) (Ly L) := by
  have h' := h
  obtain ⟨hl, h0 | ⟨g, cap, cur, rfl, hg, hh, hn, hm, hs, ht⟩⟩ := h
  · obtain ⟨rfl, h0⟩ := h0
    exact ⟨none, 0, by rw [h0], by rw [h0]; exact Nat.zero_le _, Or.inl h0⟩
  · refine ⟨_, cap, rfl, by omega, Or.inr ⟨g, 0, rfl, fun i hi => ?_⟩⟩
    have c := cellsL_at L i hi
    have e1 : w.cell? ⟨g, i * 2, none⟩ = (cellsL L)[i * 2]? := World.ownsRow.cellAt h' (i * 2) (by omega)
    have e2 : w.cell? ⟨g, i * 2 + 1, none⟩ = (cellsL L)[i * 2 + 1]? := World.ownsRow.cellAt h' (i * 2 + 1) (by omega)
    rw [Nat.zero_add, e1, e2]
    exact c

theorem sm_list (L : PL) (f : Int × Int → Int) (F : Nat → Int) (hF : ∀ i, i < L.length → F i = f (L.getD i (0, 0))) : ∀ n, n ≤ L.length → sm F n = ((L.take n).map f).sum := by
  intro n
  induction n with
  | zero => intro _; simp [sm]
  | succ n ih =>
    intro hn
    have h1 : n < L.length := by omega
    rw [List.take_succ_eq_append_getElem h1]
    simp only [sm, List.map_append, List.sum_append]
    rw [ih (by omega), hF n h1]
    simp [List.getD, List.getElem?_eq_getElem h1]

theorem totOk_list (L : PL) : TotOk L.length (Lx L) (Ly L) ↔ okL L := by
  unfold TotOk okL
  refine and_congr Iff.rfl ⟨fun h p hp => ?_, fun h i hi => ?_⟩
  · obtain ⟨i, hi, rfl⟩ := List.getElem_of_mem hp
    have := h i hi
    simpa [Lx, Ly, List.getD, List.getElem?_eq_getElem hi] using this
  · have := h L[i] (List.getElem_mem hi)
    simpa [Lx, Ly, List.getD, List.getElem?_eq_getElem hi] using this

theorem tot_list_yes (L : PL) (h : okL L) : totX L.length (Lx L) (Ly L) = sumL (·.1) L ∧ totY L.length (Lx L) (Ly L) = sumL (·.2) L ∧ totB L.length (Lx L) (Ly L) = true := by
  obtain ⟨e1, e2, e3⟩ := tot_yes ((totOk_list L).2 h)
  refine ⟨?_, ?_, e3⟩
  · rw [e1, sm_list L (·.1) (Lx L) (fun i hi => rfl) L.length (Nat.le_refl _), List.take_length]; rfl
  · rw [e2, sm_list L (·.2) (Ly L) (fun i hi => rfl) L.length (Nat.le_refl _), List.take_length]; rfl

theorem tot_list_no (L : PL) (h : ¬ okL L) : totX L.length (Lx L) (Ly L) = 0 ∧ totY L.length (Lx L) (Ly L) = 0 ∧ totB L.length (Lx L) (Ly L) = false := tot_no (fun k => h ((totOk_list L).1 k))

/-- The same totals. -/
theorem tot_same (L M : PL) (hok : okL L ↔ okL M) (hx : sumL (·.1) L = sumL (·.1) M) (hy : sumL (·.2) L = sumL (·.2) M) :
    totX L.length (Lx L) (Ly L) = totX M.length (Lx M) (Ly M) ∧ totY L.length (Lx L) (Ly L) = totY M.length (Lx M) (Ly M) ∧ totB L.length (Lx L) (Ly L) = totB M.length (Lx M) (Ly M) := by
  by_cases h : okL L
  · obtain ⟨a, b, c⟩ := tot_list_yes L h
    obtain ⟨a', b', c'⟩ := tot_list_yes M (hok.1 h)
    rw [a, b, c, a', b', c']
    exact ⟨hx, hy, rfl⟩
  · obtain ⟨a, b, c⟩ := tot_list_no L h
    obtain ⟨a', b', c'⟩ := tot_list_no M (fun k => h (hok.2 k))
    rw [a, b, c, a', b', c']
    exact ⟨rfl, rfl, rfl⟩

theorem tot_turned (L : PL) (k : Nat) :
    totX (L.drop k ++ L.take k).length (Lx (L.drop k ++ L.take k)) (Ly (L.drop k ++ L.take k)) = totX L.length (Lx L) (Ly L) ∧
    totY (L.drop k ++ L.take k).length (Lx (L.drop k ++ L.take k)) (Ly (L.drop k ++ L.take k)) = totY L.length (Lx L) (Ly L) ∧
    totB (L.drop k ++ L.take k).length (Lx (L.drop k ++ L.take k)) (Ly (L.drop k ++ L.take k)) = totB L.length (Lx L) (Ly L) := by
  have hs : ∀ f, sumL f (L.drop k ++ L.take k) = sumL f L := by
    intro f
    unfold sumL
    have e : (L.map f).sum = ((L.take k ++ L.drop k).map f).sum := by rw [List.take_append_drop]
    rw [e]
    simp only [List.map_append, List.sum_append]
    omega
  refine tot_same _ _ ?_ (hs _) (hs _)
  unfold okL
  have hl : (L.drop k ++ L.take k).length = L.length := by simp; omega
  have hm : ∀ p, p ∈ L.drop k ++ L.take k ↔ p ∈ L := by
    intro p
    rw [List.mem_append, or_comm, ← List.mem_append, List.take_append_drop]
  rw [hl]
  simp only [hm]

def swapL (L : PL) : PL := L.map fun p => (p.2, p.1)

theorem tot_swapped (L : PL) :
    totX (swapL L).length (Lx (swapL L)) (Ly (swapL L)) = totY L.length (Lx L) (Ly L) ∧
    totY (swapL L).length (Lx (swapL L)) (Ly (swapL L)) = totX L.length (Lx L) (Ly L) ∧
    totB (swapL L).length (Lx (swapL L)) (Ly (swapL L)) = totB L.length (Lx L) (Ly L) := by
  have hok : okL (swapL L) ↔ okL L := by
    unfold okL swapL
    simp only [List.length_map, List.mem_map]
    refine and_congr Iff.rfl ⟨fun h p hp => ?_, fun h p hp => ?_⟩
    · have := h (p.2, p.1) ⟨p, hp, rfl⟩
      exact ⟨this.2, this.1⟩
    · obtain ⟨q, hq, rfl⟩ := hp
      have := h q hq
      exact ⟨this.2, this.1⟩
  have h1 : sumL (·.1) (swapL L) = sumL (·.2) L := by unfold sumL swapL; rw [List.map_map]; rfl
  have h2 : sumL (·.2) (swapL L) = sumL (·.1) L := by unfold sumL swapL; rw [List.map_map]; rfl
  by_cases h : okL L
  · obtain ⟨a, b, c⟩ := tot_list_yes L h
    obtain ⟨a', b', c'⟩ := tot_list_yes _ (hok.2 h)
    rw [a, b, c, a', b', c']
    exact ⟨h1, h2, rfl⟩
  · obtain ⟨a, b, c⟩ := tot_list_no L h
    obtain ⟨a', b', c'⟩ := tot_list_no _ (fun k => h (hok.1 k))
    rw [a, b, c, a', b', c']
    exact ⟨rfl, rfl, rfl⟩

/-- The list of a row. -/
def listOf (X Y : Nat → Int) (n : Nat) : PL := (List.range n).map fun i => (X i, Y i)
theorem listOf_len (X Y : Nat → Int) (n : Nat) : (listOf X Y n).length = n := by simp [listOf]
theorem listOf_at (X Y : Nat → Int) (n i : Nat) (hi : i < n) : Lx (listOf X Y n) i = X i ∧ Ly (listOf X Y n) i = Y i := by
  simp [Lx, Ly, listOf, List.getD, hi]

theorem row_list {w : World} {a : Option Addr} {n : Nat} {X Y : Nat → Int} (h : Row w a n X Y) : Row w a (listOf X Y n).length (Lx (listOf X Y n)) (Ly (listOf X Y n)) := by
  rw [listOf_len]
  refine ⟨h.1, h.2.imp id ?_⟩
  rintro ⟨b, off, rfl, hc⟩
  refine ⟨b, off, rfl, fun i hi => ?_⟩
  rw [(listOf_at X Y n i hi).1, (listOf_at X Y n i hi).2]
  exact hc i hi

/-- The cells of a part of a row, as an append reads them. -/
theorem news_at {w : World} {b off n : Nat} {L : PL} (h : Row w (some ⟨b, off, none⟩) n (Lx L) (Ly L)) (hn : n = L.length) (k m : Nat) (hk : k + m ≤ L.length) :
    ∀ j u, (cellsL ((L.drop k).take m))[j]? = some u → w.cell? ((⟨b, off + k * 2, none⟩ : Addr).add j) = some u := by
  intro j u hu
  have hj : j < (cellsL ((L.drop k).take m)).length := by
    rcases Nat.lt_or_ge j (cellsL ((L.drop k).take m)).length with h | h
    · exact h
    · rw [List.getElem?_eq_none h] at hu; cases hu
  rw [cellsL_len] at hj
  have hm : ((L.drop k).take m).length = m := by simp; omega
  rw [hm] at hj
  rw [add_mk]
  rcases h.2 with h0 | ⟨b', off', he, hc⟩
  · omega
  · simp only [Option.some.injEq, Addr.mk.injEq] at he
    obtain ⟨rfl, rfl, _⟩ := he
    have hg : ∀ i, i < m → ((L.drop k).take m).getD i (0, 0) = L.getD (k + i) (0, 0) := by
      intro i hi
      simp [List.getD, hi, List.getElem?_drop]
    obtain ⟨i, r, hr, rfl⟩ : ∃ i r, r < 2 ∧ j = i * 2 + r := ⟨j / 2, j % 2, Nat.mod_lt _ (by omega), by omega⟩
    have hi : i < m := by omega
    have c := cellsL_at ((L.drop k).take m) i (by rw [hm]; exact hi)
    have cc := hc (k + i) (by omega)
    rcases (show r = 0 ∨ r = 1 by omega) with rfl | rfl
    · rw [Nat.add_zero] at hu ⊢
      rw [c.1] at hu
      injection hu with hu
      subst hu
      rw [show off + k * 2 + i * 2 = off + (k + i) * 2 from by omega, cc.1]
      simp only [Lx, hg i hi]
    · rw [c.2] at hu
      injection hu with hu
      subst hu
      rw [show off + k * 2 + (i * 2 + 1) = off + (k + i) * 2 + 1 from by omega, cc.2]
      simp only [Ly, hg i hi]
end Go.Proofs.Ythjlilepialmoaa.sat
