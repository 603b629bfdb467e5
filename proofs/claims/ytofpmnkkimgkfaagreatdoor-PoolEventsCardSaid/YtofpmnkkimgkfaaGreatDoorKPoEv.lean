/- Layer 13 (pool): events tell what there is. -/
import Derived.Test.YtofpmnkkimgkfaaGreatDoorKPoAll
set_option linter.all false
set_option maxHeartbeats 4000000
set_option maxRecDepth 100000
namespace Go.Proofs.YtofpmnkkimgkfaaGreatDoor.pool
open Go.RowKit Sx txn queue greedy shard
theorem drop_above {v b s : Int} {l : List Tx} (h : risesV s b l = true) (hb : v < b) : dropV v l = l := by
 unfold dropV
 exact List.filter_eq_self.2 fun y hy => by
  have := (queue.rises_all h y hy).2.2
  have : y.n ≠ v := by omega
  simpa using this
theorem ord_eq : ∀ {X Y : List PA}, pool.Ord X → pool.Ord Y → (∀ x, x ∈ X ↔ x ∈ Y) → X = Y
 | [], [], _, _, _ => rfl
 | [], y :: Y, _, _, h => absurd ((h y).2 (.head _)) (by simp)
 | x :: X, [], _, _, h => absurd ((h x).1 (.head _)) (by simp)
 | x :: X, y :: Y, hX, hY, h => by
  unfold pool.Ord at hX hY
  rw [List.pairwise_cons] at hX hY
  have e : x = y := by
   rcases List.mem_cons.1 ((h x).1 (.head _)) with e | h1
   ·exact e
   ·rcases List.mem_cons.1 ((h y).2 (.head _)) with e | h2
    ·exact e.symm
    ·have := hX.1 y h2; have := hY.1 x h1; omega
  subst e
  rw [ord_eq hX.2 hY.2 fun z => ⟨fun hz => by
   rcases List.mem_cons.1 ((h z).1 (.tail _ hz)) with e | h1
   ·subst e; have := hX.1 z hz; omega
   ·exact h1, fun hz => by
   rcases List.mem_cons.1 ((h z).2 (.tail _ hz)) with e | h1
   ·subst e; have := hY.1 z hz; omega
   ·exact h1⟩]
theorem mem_eq {P : List PA} (hp : pool.Ord P) {x y : PA} (hx : x ∈ P) (hy : y ∈ P) (h : x.1 = y.1) : x = y := by rw [← getP_in hp hx, ← getP_in hp hy, h]
def nonE (P : List PA) : Prop := ∀ x ∈ P, x.2.1 = 0 ∧ x.2.2 ≠ []
theorem set_same2 {P : List PA} (hp : pool.Ord P) (hn : nonE P) (s : Int) : setP P (getP P s) = P := by
 refine ord_eq (pool.setP_rise _ hp) hp fun x => ?_
 rw [pool.setP_mem _ hp]
 rcases getP_or P s with ⟨h1, h2⟩ | ⟨h1, h2⟩
 ·constructor
  ·rintro (⟨h, _⟩ | ⟨rfl, _⟩)
   ·exact h
   ·exact h1
  ·intro h
   by_cases e : x.1 = (getP P s).1
   ·have e2 := mem_eq hp h h1 e
    subst e2
    refine .inr ⟨rfl, ?_⟩
    have := (hn _ h1).2
    unfold emptyV
    rw [decide_eq_false (show ¬ (getP P s).2.2.length = 0 from fun q => this (List.eq_nil_of_length_eq_zero q)), Bool.and_false]
   ·exact .inl ⟨h, e⟩
 ·rw [h1]
  constructor
  ·rintro (⟨h, _⟩ | ⟨_, h⟩)
   ·exact h
   ·simp [emptyV] at h
  ·intro h
   exact .inl ⟨h, h2 x h⟩
theorem set_set {P : List PA} (hp : pool.Ord P) (a b : PA) (h : a.1 = b.1) : setP (setP P a) b = setP P b := by
 refine ord_eq (pool.setP_rise _ (pool.setP_rise a hp)) (pool.setP_rise _ hp) fun x => ?_
 rw [pool.setP_mem _ (pool.setP_rise a hp), pool.setP_mem a hp, pool.setP_mem b hp]
 constructor
 ·rintro (⟨⟨h1, h2⟩ | ⟨h1, h2⟩, h3⟩ | h1)
  ·exact .inl ⟨h1, h3⟩
  ·exact absurd (by rw [h1, h]) h3
  ·exact .inr h1
 ·rintro (⟨h1, h2⟩ | h1)
  ·exact .inl ⟨.inl ⟨h1, by rw [h]; exact h2⟩, h2⟩
  ·exact .inr h1
def zb (P : List PA) : List PA := (P.filter fun x => !decide (x.2.2.length = 0)).map fun x => (x.1, 0, x.2.2)
theorem zb_mem {P : List PA} {x : PA} : x ∈ zb P ↔ x.2.1 = 0 ∧ x.2.2.length ≠ 0 ∧ ∃ b, (x.1, b, x.2.2) ∈ P := by
 unfold zb
 rw [List.mem_map]
 constructor
 ·rintro ⟨y, hy, rfl⟩
  obtain ⟨h1, h2⟩ := List.mem_filter.1 hy
  exact ⟨rfl, by simpa using h2, y.2.1, h1⟩
 ·rintro ⟨h1, h2, b, h3⟩
  refine ⟨_, List.mem_filter.2 ⟨h3, by simpa using h2⟩, ?_⟩
  obtain ⟨x1, x2, x3⟩ := x
  have h1 : x2 = 0 := h1
  subst h1
  rfl
theorem zb_nonE (P : List PA) : nonE (zb P) := fun x hx => by
 obtain ⟨h1, h2, _⟩ := zb_mem.1 hx
 exact ⟨h1, fun e => h2 (by rw [e]; rfl)⟩
theorem zb_ord {P : List PA} (hp : pool.Ord P) : pool.Ord (zb P) := by
 unfold pool.Ord zb at *
 rw [List.pairwise_map]
 exact hp.filter _
theorem zb_get {P : List PA} (hp : pool.Ord P) (s : Int) : getP (zb P) s = (s, 0, (getP P s).2.2) := by
 rcases getP_or P s with ⟨h1, h2⟩ | ⟨h1, h2⟩
 ·by_cases hl : (getP P s).2.2.length = 0
  ·rw [List.eq_nil_of_length_eq_zero hl]
   refine getP_no fun x hx e => ?_
   obtain ⟨_, h3, b, h4⟩ := zb_mem.1 hx
   have h5 := mem_eq hp h4 h1 (by rw [h2]; exact e)
   rw [← h5] at hl
   exact h3 hl
  ·have h3 : ((s, 0, (getP P s).2.2) : PA) ∈ zb P := zb_mem.2 ⟨rfl, hl, (getP P s).2.1, by
    have e : ((s, (getP P s).2.1, (getP P s).2.2) : PA) = getP P s := Prod.ext h2.symm rfl
    show ((s, (getP P s).2.1, (getP P s).2.2) : PA) ∈ P
    rw [e]
    exact h1⟩
   exact getP_in (zb_ord hp) h3
 ·rw [h1]
  refine getP_no fun x hx e => ?_
  obtain ⟨_, _, b, h4⟩ := zb_mem.1 hx
  exact h2 _ h4 e
theorem zb_set {P : List PA} (hp : pool.Ord P) (a : PA) : zb (setP P a) = setP (zb P) (a.1, 0, a.2.2) := by
 refine ord_eq (zb_ord (pool.setP_rise a hp)) (pool.setP_rise _ (zb_ord hp)) fun x => ?_
 rw [pool.setP_mem _ (zb_ord hp), zb_mem, zb_mem]
 constructor
 ·rintro ⟨h1, h2, b, h3⟩
  rcases (pool.setP_mem a hp _).1 h3 with ⟨h4, h5⟩ | ⟨h4, h5⟩
  ·exact .inl ⟨⟨h1, h2, b, h4⟩, h5⟩
  ·refine .inr ⟨?_, ?_⟩
   ·obtain ⟨x1, x2, x3⟩ := x
    have h1 : x2 = 0 := h1
    subst h1
    rw [← h4]
   ·rw [← h4]
    unfold emptyV
    rw [decide_eq_false (show ¬ ((x.1, b, x.2.2) : PA).2.2.length = 0 from h2), Bool.and_false]
 ·rintro (⟨⟨h1, h2, b, h3⟩, h4⟩ | ⟨h1, h2⟩)
  ·exact ⟨h1, h2, b, (pool.setP_mem a hp _).2 (.inl ⟨h3, h4⟩)⟩
  ·subst h1
   have hl : a.2.2.length ≠ 0 := fun e => by
    have h2 : emptyV 0 a.2.2.length = false := h2
    rw [e] at h2
    cases h2
   exact ⟨rfl, hl, a.2.1, (pool.setP_mem a hp _).2 (.inr ⟨rfl, by unfold emptyV; rw [decide_eq_false hl, Bool.and_false]⟩)⟩
theorem zb_slots (P : List PA) : slotsP (zb P) = slotsP P := by
 induction P with
 | nil => rfl
 | cons x P ih =>
  have e : ∀ (y : PA) (L : List PA), slotsP (y :: L) = slotsL y.2.2 + slotsP L := fun y L => by simp [slotsP]
  rw [e]
  unfold zb at *
  by_cases h : x.2.2.length = 0
  ·rw [List.filter_cons_of_neg (by simpa using h), ih, List.eq_nil_of_length_eq_zero h]
   show slotsP P = 0 + slotsP P
   omega
  ·rw [List.filter_cons_of_pos (by simpa using h), List.map_cons, e, ih]
def tevS (Z : List PA) (e : Ev) : List PA := setP Z ((getP Z e.2.s).1, (getP Z e.2.s).2.1, if e.1 = 3 then dropV e.2.n (getP Z e.2.s).2.2 else putV e.2 (getP Z e.2.s).2.2)
def okE (Z : List PA) (e : Ev) : Prop := 1 ≤ e.1 ∧ e.1 ≤ 3 ∧ (findV (getP Z e.2.s).2.2 e.2.n).2 = decide (e.1 ≠ 1) ∧ (e.1 = 3 → findV (getP Z e.2.s).2.2 e.2.n = (e.2, true)) ∧ e.2.ok = true
def allOk : List PA → List Ev → Prop
 | _, [] => True
 | Z, e :: r => okE Z e ∧ allOk (tevS Z e) r
def tellA (Z : List PA) (l : List Ev) : List PA := l.foldl tevS Z
theorem allOk_app : ∀ {l r : List Ev} {Z : List PA}, allOk Z l → allOk (tellA Z l) r → allOk Z (l ++ r)
 | [], _, _, _, h => h
 | _ :: _, _, _, h, k => ⟨h.1, allOk_app h.2 k⟩
theorem tellA_app (Z : List PA) (l r : List Ev) : tellA Z (l ++ r) = tellA (tellA Z l) r := List.foldl_append
theorem allOk_at : ∀ {l : List Ev} {Z : List PA} {k : Nat} {e : Ev}, allOk Z l → l[k]? = some e → okE (tellA Z (l.take k)) e
 | [], _, _, _, _, h => by cases h
 | x :: l, Z, 0, e, h, k => by cases k; exact h.1
 | x :: l, Z, k + 1, e, h, q => allOk_at (l := l) h.2 (by simpa using q)
theorem tevS_zb {P : List PA} (hp : pool.Ord P) (e : Ev) (b : Int) : tevS (zb P) e = zb (setP P (e.2.s, b, if e.1 = 3 then dropV e.2.n (getP P e.2.s).2.2 else putV e.2 (getP P e.2.s).2.2)) := by
 unfold tevS
 rw [zb_get hp, zb_set hp]
theorem drops {s : Int} : ∀ {l1 r : List Tx} {P : List PA} {b : Int}, pool.Ord P → (getP P s).2.2 = l1 ++ r → risesV s b (l1 ++ r) = true → allOk (zb P) (evL 3 l1) ∧ tellA (zb P) (evL 3 l1) = setP (zb P) (s, 0, r)
 | [], r, P, b, hp, h, hr => by
  refine ⟨trivial, ?_⟩
  have e := set_same2 (zb_ord hp) (zb_nonE P) s
  rw [zb_get hp, h] at e
  exact e.symm
 | x :: l1, r, P, b, hp, h, hr => by
  have hr' : risesV s b (x :: (l1 ++ r)) = true := hr
  obtain ⟨r1, r2, r3, r4⟩ := rises_cons hr'
  have r2 : x.s = s := r2
  have hf : findV (x :: (l1 ++ r)) x.n = (x, true) := find_self (s := s) (b := b) hr' (.head _)
  have hd : dropV x.n (x :: (l1 ++ r)) = l1 ++ r := by
   have e1 : dropV x.n (x :: (l1 ++ r)) = dropV x.n (l1 ++ r) := by unfold dropV; rw [List.filter_cons_of_neg (by simp)]
   rw [e1, drop_above r4 (by omega)]
  have hg : (getP P x.s).2.2 = x :: (l1 ++ r) := by rw [r2]; exact h
  have hok : okE (zb P) (3, x) := by
   refine ⟨by show (1 : Int) ≤ 3; decide, by show (3 : Int) ≤ 3; decide, ?_, fun _ => ?_, r1⟩
   ·show (findV (getP (zb P) x.s).2.2 x.n).2 = _
    rw [zb_get hp, show ((x.s, 0, (getP P x.s).2.2) : PA).2.2 = (getP P x.s).2.2 from rfl, hg, hf]
    rfl
   ·show findV (getP (zb P) x.s).2.2 x.n = _
    rw [zb_get hp, show ((x.s, 0, (getP P x.s).2.2) : PA).2.2 = (getP P x.s).2.2 from rfl, hg, hf]
  have hst : tevS (zb P) (3, x) = zb (setP P (s, 0, l1 ++ r)) := by
   rw [tevS_zb hp _ 0, if_pos rfl]
   show zb (setP P (x.s, 0, dropV x.n (getP P x.s).2.2)) = _
   rw [hg, hd, r2]
  have hp2 := pool.setP_rise (s, 0, l1 ++ r) hp
  have hg2 : (getP (setP P (s, 0, l1 ++ r)) s).2.2 = l1 ++ r := by
   by_cases he : (l1 ++ r).length = 0
   ·have : getP (setP P (s, 0, l1 ++ r)) s = (s, 0, []) := getP_no fun y hy => by
     rcases (pool.setP_mem _ hp y).1 hy with ⟨_, h9⟩ | ⟨_, h9⟩
     ·exact h9
     ·have h9 : emptyV 0 (l1 ++ r).length = false := h9
      rw [he] at h9
      cases h9
    rw [this, List.eq_nil_of_length_eq_zero he]
   ·have : ((s, 0, l1 ++ r) : PA) ∈ setP P (s, 0, l1 ++ r) := (pool.setP_mem _ hp _).2 (.inr ⟨rfl, by unfold emptyV; rw [decide_eq_false he, Bool.and_false]⟩)
    rw [getP_in hp2 this]
  obtain ⟨i1, i2⟩ := drops (l1 := l1) (r := r) (P := setP P (s, 0, l1 ++ r)) (b := x.n + 1) hp2 hg2 r4
  have hL : evL 3 (x :: l1) = (3, x) :: evL 3 l1 := rfl
  refine ⟨?_, ?_⟩
  ·rw [hL]
   exact ⟨hok, by rw [hst]; exact i1⟩
  ·rw [hL]
   show tellA (tevS (zb P) (3, x)) (evL 3 l1) = _
   rw [hst, i2, zb_set hp]
   exact set_set (zb_ord hp) (s, 0, l1 ++ r) (s, 0, r) rfl
theorem below_app {s : Int} {y : Int} : ∀ {l : List Tx} {b : Int}, risesV s b l = true → below y l ++ above y l = l
 | [], _, _ => rfl
 | x :: l, b, h => by
  obtain ⟨r1, r2, r3, r4⟩ := rises_cons h
  unfold below above at *
  by_cases hx : x.n < y
  ·rw [List.filter_cons_of_pos (by simpa using hx), List.filter_cons_of_neg (by simpa using hx), List.cons_append]
   have := below_app (y := y) r4
   unfold below above at this
   rw [this]
  ·have h1 : ∀ z ∈ x :: l, ¬ z.n < y := fun z hz => by
    have := (queue.rises_all h z hz).2.2
    rcases List.mem_cons.1 hz with rfl | hz
    ·exact hx
    ·have := (queue.rises_all r4 z hz).2.2; omega
   rw [List.filter_eq_nil_iff.2 fun z hz => by simpa using h1 z hz, List.filter_eq_self.2 fun z hz => by simpa using h1 z hz]
   rfl
theorem told_step {C : Cf} {P : List PA} (h : P = [] ∨ pckB C P = true) (O : Oq) : allOk (zb P) (doP C P O).2.2 ∧ tellA (zb P) (doP C P O).2.2 = zb (doP C P O).1 := by
 cases hc : pckB C P with
 | false =>
  unfold doP
  rw [doR_no hc]
  exact ⟨trivial, rfl⟩
 | true =>
  obtain ⟨_, hg, hp, _⟩ := pck_iff.1 hc
  have hdrop : ∀ s v, allOk (zb P) (dropP P s v).2.2 ∧ tellA (zb P) (dropP P s v).2.2 = zb (dropP P s v).1 := fun s v => by
   unfold dropP
   split
   ·rename_i hf
    have hfe : findV (getP P s).2.2 v = ((findV (getP P s).2.2 v).1, true) := by rw [← hf]
    obtain ⟨f1, f2, _⟩ := found_at hc hfe
    have hmem := (findV_yes (l := (getP P s).2.2) (v := v) hf).1
    obtain ⟨_, g2⟩ := getP_good hg s
    have hok := (queue.rises_all g2 _ hmem).1
    generalize (findV (getP P s).2.2 v).1 = t at *
    subst f1 f2
    refine ⟨⟨⟨by show (1 : Int) ≤ 3; decide, by show (3 : Int) ≤ 3; decide, ?_, fun _ => ?_, hok⟩, trivial⟩, ?_⟩
    ·show (findV (getP (zb P) t.s).2.2 t.n).2 = _
     rw [zb_get hp, show ((t.s, 0, (getP P t.s).2.2) : PA).2.2 = (getP P t.s).2.2 from rfl, hfe]
     rfl
    ·show findV (getP (zb P) t.s).2.2 t.n = _
     rw [zb_get hp, show ((t.s, 0, (getP P t.s).2.2) : PA).2.2 = (getP P t.s).2.2 from rfl, hfe]
    ·show tevS (zb P) (3, t) = _
     rw [tevS_zb hp _ (getP P t.s).2.1, if_pos rfl]
     show zb (setP P (t.s, (getP P t.s).2.1, dropV t.n (getP P t.s).2.2)) = zb (setP P ((getP P t.s).1, (getP P t.s).2.1, dropV t.n (getP P t.s).2.2))
     rw [getP_s]
   ·exact ⟨trivial, rfl⟩
  unfold doP doR
  rw [if_pos hc]
  by_cases h0 : O.k = 0
  ·rw [if_pos h0]
   cases hD : dec O.d.data.toList with
   | none => rw [addR_none hD]; exact ⟨trivial, rfl⟩
   | some t =>
    rw [addR_some hD]
    split
    ·split
     ·exact ⟨trivial, rfl⟩
     ·have hok := (dec_some _ _ hD).1
      cases hf : (findV (getP P t.s).2.2 t.n).2 with
      | true =>
       refine ⟨⟨⟨by show (1 : Int) ≤ 2; decide, by show (2 : Int) ≤ 3; decide, ?_, fun h => absurd h (by show ¬ (2 : Int) = 3; decide), hok⟩, trivial⟩, ?_⟩
       ·show (findV (getP (zb P) t.s).2.2 t.n).2 = _
        rw [zb_get hp, show ((t.s, 0, (getP P t.s).2.2) : PA).2.2 = (getP P t.s).2.2 from rfl, hf]
        rfl
       ·show tevS (zb P) (2, t) = _
        rw [tevS_zb hp _ (getP P t.s).2.1, if_neg (by show ¬ (2 : Int) = 3; decide)]
        show zb (setP P (t.s, (getP P t.s).2.1, putV t (getP P t.s).2.2)) = zb (setP P ((getP P t.s).1, (getP P t.s).2.1, putV t (getP P t.s).2.2))
        rw [getP_s]
      | false =>
       refine ⟨⟨⟨by show (1 : Int) ≤ 1; decide, by show (1 : Int) ≤ 3; decide, ?_, fun h => absurd h (by show ¬ (1 : Int) = 3; decide), hok⟩, trivial⟩, ?_⟩
       ·show (findV (getP (zb P) t.s).2.2 t.n).2 = _
        rw [zb_get hp, show ((t.s, 0, (getP P t.s).2.2) : PA).2.2 = (getP P t.s).2.2 from rfl, hf]
        rfl
       ·show tevS (zb P) (1, t) = _
        rw [tevS_zb hp _ (getP P t.s).2.1, if_neg (by show ¬ (1 : Int) = 3; decide)]
        show zb (setP P (t.s, (getP P t.s).2.1, putV t (getP P t.s).2.2)) = zb (setP P ((getP P t.s).1, (getP P t.s).2.1, putV t (getP P t.s).2.2))
        rw [getP_s]
    ·exact ⟨trivial, rfl⟩
  rw [if_neg h0]
  by_cases h1 : O.k = 1
  ·rw [if_pos h1]; exact hdrop _ _
  rw [if_neg h1]
  by_cases h2 : O.k = 2
  ·rw [if_pos h2]
   unfold advR
   split
   ·split
    ·obtain ⟨_, g2⟩ := getP_good hg O.s
     have hba := below_app (y := O.v) g2
     obtain ⟨i1, i2⟩ := drops (s := O.s) (l1 := below O.v (getP P O.s).2.2) (r := above O.v (getP P O.s).2.2) hp hba.symm (by rw [hba]; exact g2)
     refine ⟨i1, i2.trans ?_⟩
     show _ = zb (setP P ((getP P O.s).1, O.v, above O.v (getP P O.s).2.2))
     rw [zb_set hp, getP_s]
    ·exact ⟨trivial, rfl⟩
   ·exact ⟨trivial, rfl⟩
  rw [if_neg h2]
  by_cases h3 : O.k = 3
  ·rw [if_pos h3]
   unfold getR
   split <;> exact ⟨trivial, rfl⟩
  rw [if_neg h3]
  by_cases h4 : O.k = 4
  ·rw [if_pos h4]; exact ⟨trivial, rfl⟩
  rw [if_neg h4]
  by_cases h5 : O.k = 5
  ·rw [if_pos h5]; exact ⟨trivial, rfl⟩
  rw [if_neg h5]
  by_cases h6 : O.k = 6
  ·rw [if_pos h6]
   unfold evictR
   split
   ·exact ⟨trivial, rfl⟩
   ·exact hdrop _ _
  rw [if_neg h6]
  exact ⟨trivial, rfl⟩
theorem told_run (C : Cf) (l : List Oq) : allOk [] (runP C l).2.2 ∧ tellA [] (runP C l).2.2 = zb (runP C l).1 := by
 induction l using snoc_ind with
 | nil => exact ⟨trivial, rfl⟩
 | snoc l O ih =>
  obtain ⟨h1, h2⟩ := ih
  rw [runP_snoc]
  obtain ⟨s1, s2⟩ := told_step (run_inv C l).2.1 O
  rw [← h2] at s1
  refine ⟨?_, ?_⟩
  ·show allOk [] ((runP C l).2.2 ++ (doP C (runP C l).1 O).2.2)
   exact allOk_app h1 s1
  ·show tellA [] ((runP C l).2.2 ++ (doP C (runP C l).1 O).2.2) = zb (doP C (runP C l).1 O).1
   rw [tellA_app, h2]
   exact s2
end Go.Proofs.YtofpmnkkimgkfaaGreatDoor.pool
