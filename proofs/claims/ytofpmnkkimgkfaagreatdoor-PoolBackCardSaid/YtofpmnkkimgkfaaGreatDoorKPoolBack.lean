/- hopper/hopperlaw13.PoolBack answers true at every input, and every argument reads behind the call as it read before; hopper/txn.most holds what the program's text lays there: the card ties it. No other condition. -/
import Derived.Test.YtofpmnkkimgkfaaGreatDoorRows
import Derived.Test.YtofpmnkkimgkfaaGreatDoorKTxn
import Derived.OpenShut
import Derived.ChangeOld
import Derived.LaidLaws
import Derived.Test.YtofpmnkkimgkfaaGreatDoorKPoAll
import Derived.Test.YtofpmnkkimgkfaaGreatDoorCards
import Derived.Test.YtofpmnkkimgkfaaGreatDoorTie
import Derived.WalkKit
import Derived.ProofKit
import Derived.ShutString
import Derived.Below
import Derived.Handed
import Derived.SevenTiedAt
set_option linter.all false
set_option maxHeartbeats 4000000
set_option maxRecDepth 100000
namespace Go.Proofs.YtofpmnkkimgkfaaGreatDoor.txn
open Go.RowKit Go.ChangeShapes Go.WideShapes
theorem most_of_laid {W : World} (h : laidMet Tryz.prog [("hopper/txn.most", Rows.laid_hopper_txn_most)] W) : Most W := by
 obtain ⟨ps, ⟨g, t, cs, fuel, p, q, hg, ht, hvar, hd, _, _⟩, _⟩ := h
 obtain rfl := Option.some.inj ((show Tryz.prog.globalNamed "hopper/txn.most" = some 0 by kernel_rfl).symm.trans hg)
 obtain rfl := Option.some.inj ((show (Tryz.prog.globals[0]?).map (·.type) = some 190 by kernel_rfl).symm.trans ht)
 obtain ⟨xs, m, _, hx, hlen, hn, hi⟩ := DataW.trod_array Tryz.underlying190 hd
 have h5 : cs.toList.length = 5 := hlen.trans (by kernel_rfl)
 obtain ⟨l⟩ := cs
 match l, h5 with
 | [c0, c1, c2, c3, c4], _ =>
  match xs, hn with
  | [y0, y1, y2, y3, y4], _ =>
   have k3 : Tryz.prog.cellsOf 3 = 1 := by kernel_rfl
   have g0 := hi 0 (by omega)
   have g1 := hi 1 (by omega)
   have g2 := hi 2 (by omega)
   have g3 := hi 3 (by omega)
   have g4 := hi 4 (by omega)
   simp [k3] at g0 g1 g2 g3 g4
   obtain ⟨a0, e0, f0, _⟩ := DataW.trod_int Tryz.underlying3 g0
   obtain ⟨a1, e1, f1, _⟩ := DataW.trod_int Tryz.underlying3 g1
   obtain ⟨a2, e2, f2, _⟩ := DataW.trod_int Tryz.underlying3 g2
   obtain ⟨a3, e3, f3, _⟩ := DataW.trod_int Tryz.underlying3 g3
   obtain ⟨a4, e4, f4, _⟩ := DataW.trod_int Tryz.underlying3 g4
   simp at e0 e1 e2 e3 e4
   subst e0 e1 e2 e3 e4 f0 f1 f2 f3 f4
   simp [Rows.laid_hopper_txn_most] at hx
   obtain ⟨⟨r0, r1, r2, r3, r4⟩, _⟩ := hx
   subst r0 r1 r2 r3 r4
   have z0 := World.var?_cell hg hvar 0
   have z1 := World.var?_cell hg hvar 1
   have z2 := World.var?_cell hg hvar 2
   have z3 := World.var?_cell hg hvar 3
   have z4 := World.var?_cell hg hvar 4
   have hz : 0 < W.heap.size := by
    rcases Nat.eq_zero_or_pos W.heap.size with h0 | h0
    ·exfalso
     simp [World.cell?, Array.getElem?_eq_none (show W.heap.size ≤ 0 by omega)] at z0
    ·exact h0
   exact ⟨by simpa using z0, by simpa using z1, by simpa using z2, by simpa using z3, by simpa using z4, hz⟩
end Go.Proofs.YtofpmnkkimgkfaaGreatDoor.txn
namespace Go.Proofs.YtofpmnkkimgkfaaGreatDoor.pool
open Go.RowKit Sx txn queue greedy shard
theorem ord_eq : ∀ {X Y : List PA}, Ord X → Ord Y → (∀ x, x ∈ X ↔ x ∈ Y) → X = Y
 | [], [], _, _, _ => rfl
 | [], y :: Y, _, _, h => absurd ((h y).2 (.head _)) (by simp)
 | x :: X, [], _, _, h => absurd ((h x).1 (.head _)) (by simp)
 | x :: X, y :: Y, hX, hY, h => by
  unfold Ord at hX hY
  rw [List.pairwise_cons] at hX hY
  have e : x = y := by
   rcases List.mem_cons.1 ((h x).1 (.head _)) with e | h1
   ·exact e
   ·rcases List.mem_cons.1 ((h y).2 (.head _)) with e | h2
    ·exact e.symm
    ·have := hX.1 y h2; have := hY.1 x h1; omega
  subst e
  rw [ord_eq hX.2 hY.2 fun z => ⟨fun hz => by
   rcases List.mem_cons.1 ((h z).1 (.tail _ hz)) with e | h1
   ·subst e; have := hX.1 z hz; omega
   ·exact h1, fun hz => by
   rcases List.mem_cons.1 ((h z).2 (.tail _ hz)) with e | h1
   ·subst e; have := hY.1 z hz; omega
   ·exact h1⟩]
theorem drop_putGo (t : Tx) : ∀ {l : List Tx}, (∀ x ∈ l, x.n ≠ t.n) → dropV t.n (putGo false t l false) = l
 | [], _ => by rw [putGo_nil]; simp [dropV]
 | x :: l, h => by
  have hx : (x.n == t.n) = false := by simpa using h x (.head _)
  have hl : ∀ y ∈ l, y.n ≠ t.n := fun y hy => h y (.tail _ hy)
  rw [putGo_cons, hx, cond_false]
  have hd : ∀ {r : List Tx}, (∀ y ∈ r, y.n ≠ t.n) → dropV t.n r = r := fun hr => by
   unfold dropV
   exact List.filter_eq_self.2 fun y hy => by simpa using hr y hy
  cases (!false && decide (x.n > t.n)) with
  | true =>
   rw [cond_true]
   have e : dropV t.n (t :: x :: l) = dropV t.n (x :: l) := by unfold dropV; rw [List.filter_cons_of_neg (by simp)]
   rw [e, hd h]
  | false =>
   rw [cond_false]
   have e : dropV t.n (x :: putGo false t l false) = x :: dropV t.n (putGo false t l false) := by unfold dropV; rw [List.filter_cons_of_pos (by simpa using h x (.head _))]
   rw [e, drop_putGo t hl]
theorem drop_put {t : Tx} {l : List Tx} (h : (findV l t.n).2 = false) : dropV t.n (putV t l) = l := by
 unfold putV
 rw [h]
 exact drop_putGo t (findV_no h)
theorem get_set {P : List PA} (hp : Ord P) (a : PA) (he : emptyV a.2.1 a.2.2.length = false) : getP (setP P a) a.1 = a := getP_in (setP_rise a hp) ((setP_mem a hp a).2 (.inr ⟨rfl, he⟩))
theorem set_back {per : Int} {P : List PA} (hp : Ord P) (hg : ∀ x ∈ P, goodB per x = true) {s : Int} (a : PA) (ha : a.1 = s) : setP (setP P a) (getP P s) = P := by
 have hs := getP_s P s
 refine ord_eq (setP_rise _ (setP_rise a hp)) hp fun z => ?_
 rw [setP_mem _ (setP_rise a hp), setP_mem a hp, hs, ha]
 constructor
 ·rintro (⟨⟨h1, _⟩ | ⟨h1, _⟩, h2⟩ | ⟨h1, h2⟩)
  ·exact h1
  ·exact absurd (by rw [h1, ha]) h2
  ·rcases getP_or P s with ⟨g1, _⟩ | ⟨g1, _⟩
   ·rw [h1]; exact g1
   ·rw [g1] at h2; exact absurd (show emptyV 0 0 = false from h2) (by decide)
 ·intro hz
  by_cases h : z.1 = s
  ·have e := getP_in hp hz
   rw [h] at e
   refine .inr ⟨e.symm, ?_⟩
   rw [e]
   exact (good_iff.1 (hg z hz)).2
  ·exact .inl ⟨.inl ⟨hz, h⟩, h⟩
theorem put_some (t : Tx) (l : List Tx) : (putV t l).length ≠ 0 := fun h => by
 have h1 := putV_find t l
 rw [List.eq_nil_of_length_eq_zero h, findV_nil] at h1
 cases h1
theorem back {C : Cf} {P : List PA} {t : Tx} (h : pckB C P = true) (hn : (findV (getP P t.s).2.2 t.n).2 = false) (hq : (addR C P (bz t)).2.1.e = 0) :
  ∃ P', addR C P (bz t) = (P', ⟨0, tx0, [], 0⟩, [(1, t)]) ∧ findV (getP P' t.s).2.2 t.n = (t, true) ∧ dropP P' t.s t.n = (P, ⟨0, t, [], 0⟩, [(3, t)]) := by
 obtain ⟨_, hg, hp, _⟩ := pck_iff.1 h
 have hok : t.ok = true := by
  cases hok : t.ok with
  | true => rfl
  | false =>
   have e : dec (bz t).data.toList = none := by
    unfold bz encV
    rw [hok]
    rfl
   rw [addR_none e] at hq
   cases hq
 rw [addR_some (dec_bz hok)] at hq ⊢
 split at hq
 ·rename_i h1
  rw [if_pos h1]
  split at hq
  ·cases hq
  ·rename_i h2
   rw [if_neg h2, hn]
   have hs := getP_s P t.s
   have hgs := get_set hp ((getP P t.s).1, (getP P t.s).2.1, putV t (getP P t.s).2.2) (by unfold emptyV; rw [decide_eq_false (put_some t _), Bool.and_false])
   have hgs : getP (setP P ((getP P t.s).1, (getP P t.s).2.1, putV t (getP P t.s).2.2)) t.s = ((getP P t.s).1, (getP P t.s).2.1, putV t (getP P t.s).2.2) := by
    have g2 : ∀ k, k = t.s → getP (setP P ((getP P t.s).1, (getP P t.s).2.1, putV t (getP P t.s).2.2)) k = ((getP P t.s).1, (getP P t.s).2.1, putV t (getP P t.s).2.2) → getP (setP P ((getP P t.s).1, (getP P t.s).2.1, putV t (getP P t.s).2.2)) t.s = ((getP P t.s).1, (getP P t.s).2.1, putV t (getP P t.s).2.2) := fun k hk h => by
     rw [hk] at h; exact h
    exact g2 _ hs hgs
   refine ⟨_, rfl, by rw [hgs]; exact putV_find t _, ?_⟩
   unfold dropP
   rw [hgs]
   have hf := putV_find t (getP P t.s).2.2
   simp only [hf, if_true]
   rw [drop_put hn]
   have e : ((getP P t.s).1, (getP P t.s).2.1, (getP P t.s).2.2) = getP P t.s := rfl
   rw [e, set_back hp hg ((getP P t.s).1, (getP P t.s).2.1, putV t (getP P t.s).2.2) hs]
 ·exact absurd hq (by assumption)
end Go.Proofs.YtofpmnkkimgkfaaGreatDoor.pool
namespace Go.Proofs.YtofpmnkkimgkfaaGreatDoor.poolBack
open Go.RowKit Sx txn queue greedy shard pool
theorem tplP_le2 {P : List PA} (h : ∀ x ∈ P, x.2.2.length ≤ 20) (hn : P.length ≤ 1000) (g : Int) : (tplP P g).length ≤ 20000 := by
 unfold tplP templateV
 refine Nat.le_trans (pool.tplV_le _ _) ?_
 unfold sizeL
 have h1 : ((firstsV (P.map toA)).map fun x => lineV x.b x.l).length ≤ 1000 := by
  rw [List.length_map]
  have := firstsV_le (P.map toA) (P.map toA).length
  rw [List.take_length, List.length_map] at this
  omega
 refine Nat.le_trans (sum_le (k := 20) fun z hz => ?_) ?_
 ·obtain ⟨r, hr, rfl⟩ := List.mem_map.1 hz
  obtain ⟨x, hx, rfl⟩ := List.mem_map.1 hr
  obtain ⟨p, hp, rfl⟩ := List.mem_map.1 (firstsV_mem hx)
  exact Nat.le_trans (lineV_le _ _) (h p hp)
 ·rw [List.length_map]; omega
theorem do_0 {C : Cf} {P : List PA} {s v g : Int} {d : ByteArray} (h : pckB C P = true) : doP C P ⟨0, s, v, g, d⟩ = addR C P d := by unfold doP doR; rw [if_pos h]; rfl
theorem do_1 {C : Cf} {P : List PA} {s v g : Int} {d : ByteArray} (h : pckB C P = true) : doP C P ⟨1, s, v, g, d⟩ = dropP P s v := by unfold doP doR; rw [if_pos h]; rfl
theorem do_3 {C : Cf} {P : List PA} {s v g : Int} {d : ByteArray} (h : pckB C P = true) : doP C P ⟨3, s, v, g, d⟩ = getR P s v := by unfold doP doR; rw [if_pos h]; rfl
theorem do_at {C : Cf} {P : List PA} (hpb : pckB C P = true) {O : Oq} {R : Rs3} (e : doP C P O = R) (L : List Ac) (a : Option Addr) (n c : Nat) (w : World) (hL : L.map acP = P) (hM : Most w) (hA : Acs w a n c L) (h1000 : n ≤ 1000) (hd : O.d.size ≤ 1000000) (hG : O.g = 0) :
  Calls Tryz.prog 16 (List.toArray [C.val, .slice a n c, O.val]) w fun e w' => Ans w w' [] e R := by
 have hn := hA.2.1
 have := do_any C O L a n c w hM hA (by omega) hd (by omega) (by
  rw [hL]
  exact Nat.le_trans (tplP_le2 (fun x hx => by have := (get_few (.inr hpb)).1 x hx; omega) (by rw [← hL, List.length_map]; omega) O.g) (by omega))
 rw [hL, e] at this
 exact this
theorem walk (C : Cf) (a : Option Addr) (n c : Nat) (L : List Ac) (t : Tx) (w : World) (hM : Most w) (hC : True) (hI : AccsIn w a n c L) (hT : Tx.fits t) :
  Calls Tryz.prog 7 (List.toArray [C.val, .slice a n c, t.val]) w fun e w' => e = .returned (.bool true) ∧ Below w.heap.size w w' := by
 refine calls_of_exec Sxs.env_ok.keeps.soon_ Tryz.func7 rfl [(4, (.one 0 (.one 1 (.one 2 (.one 3 (.one 5 (.one 6 (.fork 4 (.fork 7 (.one 8 (.one 9 (.one 10 (.one 11 (.one 12 (.one 13 (.done))))))) 11 (.one 7 (.one 8 (.one 9 (.one 10 (.one 12 (.one 13 (.done)))))))) 11 (.one 4 (.one 7 (.one 8 (.one 9 (.one 10 (.one 12 (.one 13 (.done)))))))))))))), []))] (schedQ_ok _ _ (by kernel_rfl)) (acsF a n L) hI.facts ?_
 have FW := fun w' (hM' : AccsIn w' a n c L) => fewW L 20 a n c w' hM'
 generalize hfb : (fewA L && decide ((n : Int) ≤ 20)) = fb at *
 conv=>arg 5;whnf
 refine meetc (f := 14) (v := .bool fb) rfl (by kernel_rfl) (fun β ρ w' hM' => FW w' (hI.mem hM' fun φ hφ => hφ)) ?_
 cases fb with
 | false =>
  conv=>arg 5;whnf
  refine meetc (f := 15) (v := .bool true) rfl (by kernel_rfl) (fun β ρ w' hM' => live w' (hM.later hM'.below)) ?_
  conv=>arg 5;whnf
  exact wp_back fun β ρ w' hM' => ⟨rfl, hM'.below⟩
 | true =>
  simp only [Bool.and_eq_true, decide_eq_true_eq] at hfb
  obtain ⟨hA, hx20⟩ := hI.few hfb.1
  have hn := hI.2.1
  have hn20 : n ≤ 20 := by omega
  have P1 := fun w hM hA => pcheck C L a n c w hM hA (by omega)
  have SM := fun w => queue.rsmall t w
  have EN := fun w => rencode t w hT.2.2.2.2.2
  have hbzs : (bz t).size ≤ 1000000 := by have := encV_len t; show (encV t).toArray.size ≤ 1000000; rw [List.size_toArray]; omega
  generalize decide (t.d.size ≤ 500) = sm at *
  conv=>arg 5;whnf
  refine meetc (f := 38) (v := .bool sm) rfl (by kernel_rfl) (fun β ρ w' hM' => SM w') ?_
  cases sm with
  | false =>
   conv=>arg 5;whnf
   refine meetc (f := 15) (v := .bool true) rfl (by kernel_rfl) (fun β ρ w' hM' => live w' (hM.later hM'.below)) ?_
   conv=>arg 5;whnf
   exact wp_back fun β ρ w' hM' => ⟨rfl, hM'.below⟩
  | true =>
  cases hpb : pckB C (L.map acP) with
  | false =>
   rw [hpb] at P1
   conv=>arg 5;whnf
   refine meetc (f := 23) (v := .bool false) rfl (by kernel_rfl) (fun β ρ w' hM' => P1 w' (hM.later hM'.below) (Mem.acs hA hM' fun φ hφ => hφ)) ?_
   conv=>arg 5;whnf
   refine meetc (f := 15) (v := .bool true) rfl (by kernel_rfl) (fun β ρ w' hM' => live w' (hM.later hM'.below)) ?_
   conv=>arg 5;whnf
   exact wp_back fun β ρ w' hM' => ⟨rfl, hM'.below⟩
  | true =>
   rw [hpb] at P1
   conv=>arg 5;whnf
   refine meetc (f := 23) (v := .bool true) rfl (by kernel_rfl) (fun β ρ w' hM' => P1 w' (hM.later hM'.below) (Mem.acs hA hM' fun φ hφ => hφ)) ?_
   conv=>arg 5;whnf
   refine meetc (f := 39) (v := .tuple #[.string (bz t), .bool t.ok]) rfl (by kernel_rfl) (fun β ρ w' hM' => EN w') ?_
   have GT := fun w hA => rget11 0 L a n c t.s w hA (by omega)
   have hbk := @back C (L.map acP) t hpb
   have hno : (findV (getP (L.map acP) t.s).2.2 t.n).2 = false → getR (L.map acP) t.s t.n = failP (L.map acP) 7 := fun h => by unfold getR; rw [if_neg (by rw [h]; simp)]
   have hp1 := addR_ok hpb (bz t)
   have hR1 : doP C (L.map acP) ⟨0, 0, 0, 0, bz t⟩ = addR C (L.map acP) (bz t) := do_0 hpb
   generalize hpp : getP (L.map acP) t.s = p at *
   have FI := fun u c_u w' (h_u : Sl u p.2.2.length c_u) hr => rfind p.1 p.2.1 p.2.2 u p.2.2.length c_u t.n w' h_u rfl hr
   generalize findV p.2.2 t.n = q at *
   obtain ⟨ft, fd⟩ := q
   generalize hR : addR C (L.map acP) (bz t) = R at *
   obtain ⟨RP, Rr, Re⟩ := R
   have hp1 : pckB C RP = true := hp1
   conv=>arg 5;whnf
   refine wp_both ?_ ?_
   all_goals
    conv=>arg 5;whnf
    refine meetAc (f := 33) p (acsF a n L) (fun ψ h => h) rfl (by kernel_rfl) (fun β ρ w' hM' => GT w' (Mem.acs hA hM' fun φ hφ => hφ)) (fun u c_u h_u f_u => ?_)
    conv=>arg 5;whnf
    try refine wp_both ?_ ?_
    all_goals
     conv=>arg 5;whnf
     refine meetc (f := 34) (v := .tuple #[ft.val, .bool fd]) rfl (by kernel_rfl) (fun β ρ w' hM' => FI u c_u w' h_u (hM'.at_ (.head _))) ?_
     conv=>arg 5;whnf
     refine meetAn (f := 16) (RP, Rr, Re) [] (by simp) rfl (by kernel_rfl) (fun β ρ w' hM' => do_at hpb hR1 L a n c w' rfl (hM.later hM'.below) (Mem.acs hA hM' fun φ hφ => .tail _ (hφ)) (by omega) hbzs rfl) (fun x hx _ => ?_)
     conv=>arg 5;whnf
     refine wp_g0 (fun h1 => ?_) (fun h1 => ?_)
     rotate_left
     ·skip
      conv=>arg 5;whnf
      refine meetc (f := 15) (v := .bool true) rfl (by kernel_rfl) (fun β ρ w' hM' => live w' (hM.later hM'.below)) ?_
      conv=>arg 5;whnf
      exact wp_back fun β ρ w' hM' => ⟨rfl, hM'.below⟩
     have h2 : Rr.e = 0 := by have : (!(Rr.e == 0)) = false := h1; simpa using this
     cases fd with
     | true =>
      conv=>arg 5;whnf
      refine meetc (f := 15) (v := .bool true) rfl (by kernel_rfl) (fun β ρ w' hM' => live w' (hM.later hM'.below)) ?_
      conv=>arg 5;whnf
      exact wp_back fun β ρ w' hM' => ⟨rfl, hM'.below⟩
     | false =>
      obtain ⟨Q, e1, e2, e3⟩ := hbk rfl h2
      have q1 : RP = Q := congrArg (fun x : Rs3 => x.1) e1
      have q2 : Rr = ⟨0, tx0, [], 0⟩ := congrArg (fun x : Rs3 => x.2.1) e1
      have q3 : Re = [(1, t)] := congrArg (fun x : Rs3 => x.2.2) e1
      clear e1
      subst q1 q2 q3
      have hno := hno rfl
      obtain ⟨x1, x2, x3, x4, x5⟩ := hx
      have x1 : x.L.map acP = RP := x1
      have xl : x.L.length ≤ 1000 := by
       have h9 := doR_len C (L.map acP) (worP (L.map acP)) (tplP (L.map acP) 0) ⟨0, 0, 0, 0, bz t⟩
       have h8 : (doP C (L.map acP) ⟨0, 0, 0, 0, bz t⟩).1.length ≤ (L.map acP).length + 1 := h9
       rw [hR1, List.length_map] at h8
       have h7 : RP.length ≤ L.length + 1 := h8
       rw [← x1, List.length_map] at h7
       omega
      have hR2 : doP C RP ⟨3, t.s, t.n, 0, ByteArray.empty⟩ = (RP, ⟨0, t, [], 0⟩, []) := by rw [do_3 hp1]; unfold getR; rw [e2]; rfl
      have hR3 : doP C RP ⟨1, t.s, t.n, 0, ByteArray.empty⟩ = (L.map acP, ⟨0, t, [], 0⟩, [(3, t)]) := by rw [do_1 hp1]; exact e3
      have hR4 : doP C (L.map acP) ⟨3, t.s, t.n, 0, ByteArray.empty⟩ = failP (L.map acP) 7 := by rw [do_3 hpb]; exact hno
      conv=>arg 5;whnf
      refine meetAn (f := 16) (RP, ⟨0, t, [], 0⟩, []) [] (by simp) rfl (by kernel_rfl) (fun β ρ w' hM' => do_at hp1 hR2 x.L x.a x.L.length x.c w' x1 (hM.later hM'.below) (acs_of hM' x3 rfl x2 fun φ hφ => (show φ ∈ x.fs (RP, ⟨0, tx0, [], 0⟩, [(1, t)]) ++ (rowF (pt u p.2.2.length) (cellsL p.2.2) :: acsF a n L) from List.mem_append_left _ (.tail _ (.tail _ hφ)))) (by omega) (Nat.zero_le _) rfl) (fun g hg _ => ?_)
      conv=>arg 5;whnf
      refine meetAn (f := 16) (L.map acP, ⟨0, t, [], 0⟩, [(3, t)]) [] (by simp) rfl (by kernel_rfl) (fun β ρ w' hM' => do_at hp1 hR3 x.L x.a x.L.length x.c w' x1 (hM.later hM'.below) (acs_of hM' x3 rfl x2 fun φ hφ => (show φ ∈ g.fs (RP, ⟨0, t, [], 0⟩, []) ++ (x.fs (RP, ⟨0, tx0, [], 0⟩, [(1, t)]) ++ (rowF (pt u p.2.2.length) (cellsL p.2.2) :: acsF a n L)) from List.mem_append_right _ (List.mem_append_left _ (.tail _ (.tail _ hφ))))) (by omega) (Nat.zero_le _) rfl) (fun y hy _ => ?_)
      obtain ⟨y1, y2, y3, y4, y5⟩ := hy
      have y1 : y.L.map acP = L.map acP := y1
      have yl : y.L.length ≤ 1000 := by have h9 := congrArg List.length y1; rw [List.length_map, List.length_map] at h9; omega
      have y5 : Sl y.ea 1 y.ec := y5
      conv=>arg 5;whnf
      refine meetAn (f := 16) (failP (L.map acP) 7) [] (by simp) rfl (by kernel_rfl) (fun β ρ w' hM' => do_at hpb hR4 y.L y.a y.L.length y.c w' y1 (hM.later hM'.below) (acs_of hM' y3 rfl y2 fun φ hφ => (show φ ∈ y.fs (L.map acP, ⟨0, t, [], 0⟩, [(3, t)]) ++ (g.fs (RP, ⟨0, t, [], 0⟩, []) ++ (x.fs (RP, ⟨0, tx0, [], 0⟩, [(1, t)]) ++ (rowF (pt u p.2.2.length) (cellsL p.2.2) :: acsF a n L))) from List.mem_append_left _ (.tail _ (.tail _ hφ)))) (by omega) (Nat.zero_le _) rfl) (fun v hv _ => ?_)
      conv=>arg 5;whnf
      refine wp_prim (.bool true) (fun w => eq_same' _ _ t w) ?_
      conv=>arg 5;whnf
      refine wp_prim (.bool true) (fun w => eq_same' _ _ t w) ?_
      conv=>arg 5;whnf
      refine wp_must ⟨by decide, by show (0 : Int) < ((1 : Nat) : Int); decide, y5.some (show 0 < 1 by decide)⟩ ?_
      conv=>arg 5;whnf
      refine readF (sz := 8) (k := 0) (f := 0) (.int .i64 3) rfl (show rowF (pt y.ea 1) (cellsE [(3, t)]) ∈ v.fs (failP (L.map acP) 7) ++ (y.fs (L.map acP, ⟨0, t, [], 0⟩, [(3, t)]) ++ (g.fs (RP, ⟨0, t, [], 0⟩, []) ++ (x.fs (RP, ⟨0, tx0, [], 0⟩, [(1, t)]) ++ (rowF (pt u p.2.2.length) (cellsL p.2.2) :: acsF a n L)))) from List.mem_append_right _ (List.mem_append_left _ (.tail _ (.head _)))) (show 0 < 1 by decide) (y5.some (show 0 < 1 by decide)) rfl rfl ?_
      conv=>arg 5;whnf
      refine meetc (f := 18) (v := .bool true) rfl (by kernel_rfl) (fun β ρ w' hM' => raccounts y.L L y1 y.a y.L.length y.c a n c w' (acs_of hM' y3 rfl y2 fun φ hφ => (show φ ∈ v.fs (failP (L.map acP) 7) ++ (y.fs (L.map acP, ⟨0, t, [], 0⟩, [(3, t)]) ++ (g.fs (RP, ⟨0, t, [], 0⟩, []) ++ (x.fs (RP, ⟨0, tx0, [], 0⟩, [(1, t)]) ++ (rowF (pt u p.2.2.length) (cellsL p.2.2) :: acsF a n L)))) from List.mem_append_right _ (List.mem_append_left _ (.tail _ (.tail _ hφ))))) (Mem.acs hA hM' fun φ hφ => (show φ ∈ v.fs (failP (L.map acP) 7) ++ (y.fs (L.map acP, ⟨0, t, [], 0⟩, [(3, t)]) ++ (g.fs (RP, ⟨0, t, [], 0⟩, []) ++ (x.fs (RP, ⟨0, tx0, [], 0⟩, [(1, t)]) ++ (rowF (pt u p.2.2.length) (cellsL p.2.2) :: acsF a n L)))) from List.mem_append_right _ (List.mem_append_right _ (List.mem_append_right _ (List.mem_append_right _ (.tail _ hφ))))))) ?_
      conv=>arg 5;whnf
      refine meetc (f := 15) (v := .bool true) rfl (by kernel_rfl) (fun β ρ w' hM' => live w' (hM.later hM'.below)) ?_
      conv=>arg 5;whnf
      exact wp_back fun β ρ w' hM' => ⟨rfl, hM'.below⟩
end Go.Proofs.YtofpmnkkimgkfaaGreatDoor.poolBack
namespace Go.Proofs.YtofpmnkkimgkfaaGreatDoor.poolBack
open Go.ChangeShapes Go.WideShapes Go.ChangeAt Go.RowKit
open Go.ChangeMaps (open_string shut_string)
theorem own : ownKnob Tryz.prog.godebug = none := by kernel_rfl
theorem laidOut : laidOutB Tryz.prog = true := by kernel_rfl
noncomputable def laidWorld (os : Os) : World :=
 let w0 := World.holding Tryz.prog os ⟨#[], #[], []⟩
 { w0 with heap := w0.heap.modify 0 fun
   | .cells _ t frozen => .cells #[.int .i64 255, .int .i64 4294967295, .int .i64 1099511627776, .int .i64 1099511627776, .int .i64 1073741824] t frozen
   | o => o }
theorem laid_met (os : Os) (args : Array Value) : laidMet Tryz.prog Rows.poolBackRow.laid ((laidWorld os).forCall (fun _ _ => 0) ⟨#[], args, []⟩).memory :=
 laidMet_of_run (ps := [.cell 0 0, .cell 0 1, .cell 0 2, .cell 0 3, .cell 0 4]) 8 (by kernel_rfl) (by kernel_rfl) (by kernel_rfl)
theorem lifted (os : Os) (started : os.Started) (H : Type) (enc : TypeId × Value → H) :
  ReturnsInHanded {} Tryz.checked os 7 .any (fun w args => (Rows.poolBackSpec.pre enc Tryz.prog Tryz.f7 Rows.poolBackRow.domain false w args ∧ laidMet Tryz.prog Rows.poolBackRow.laid w) ∧ sizedMet enc Tryz.prog Tryz.f7 (OpenSpec.ofChange Rows.poolBackSpec) false w args) (Rows.poolBackSpec.post enc Tryz.prog Tryz.f7 false true false false) := by
 refine returnsInHanded_of_change_and (C := Tryz.checked) (X := fun w _ => laidMet Tryz.prog Rows.poolBackRow.laid w) (fun _ _ _ hh h => h.of_heap hh) own started (by kernel_rfl) Tryz.func7
  (ChangeSpec.witness_at (enc := enc) (C := Tryz.checked) (os := os) (X := fun w _ => laidMet Tryz.prog Rows.poolBackRow.laid w) false (laidWorld os) #[.agg #[.int .i64 0, .int .i64 0, .int .i64 0, .int .i64 0, .int .i64 0, .int .i64 0, .int .i64 0, .int .i64 0], .slice none 0 0, .agg #[.int .i64 0, .int .i64 0, .int .i64 0, .int .i64 0, .int .i64 0, .string ByteArray.empty]] 8 rfl (by kernel_rfl) (by kernel_rfl) (by kernel_rfl) (by kernel_rfl) (by kernel_rfl) (laid_met os _)) ?_
 intro W base args ds gs before hval0 hW hcnd _ hL _
 have hval : ∀ (j : Nat) t v, Tryz.f7.params[j]? = some t → args[j]? = some v → Value.okWide Tryz.prog W .any base t v := hval0
 have hW' := hW
 obtain ⟨p, q, hA0, hV, rfl, hfz, hnd⟩ := hW
 have hA : DataW.TrodAll enc Tryz.prog W 0 (fun _ => true) true Tryz.f7.params.toList args.toList ds p := hA0
 rw [Tryz.params7] at hA hval
 obtain ⟨v0, vs0, d0, ds0, p0, q0, hargs, rfl, rfl, h0, r0⟩ := trodAll_cons hA
 obtain ⟨v1, vs1, d1, ds1, p1, q1, rfl, rfl, rfl, h1, r1⟩ := trodAll_cons r0
 obtain ⟨v2, vs2, d2, ds2, p2, q2, rfl, rfl, rfl, h2, r2⟩ := trodAll_cons r1
 obtain ⟨rfl, rfl, rfl⟩ := trodAll_nil r2
 obtain rfl : args = #[v0, v1, v2] := by cases args; simp_all
 obtain ⟨rfl, rfl⟩ := trodVars_none hV
 have k0 := h0
 have lt0 : ∀ x ∈ p0, x.block < W.heap.size := by obtain ⟨m, hm⟩ := k0; exact DataW.trod_lt m _ _ _ hm
 obtain ⟨C0, rfl, f0⟩ := pool.open_cfg (hval 0 23 v0 rfl rfl) h0
 have k1 := h1
 have lt1 : ∀ x ∈ p1, x.block < W.heap.size := by obtain ⟨m, hm⟩ := k1; exact DataW.trod_lt m _ _ _ hm
 obtain ⟨a1, n1, c1, l1, rfl, f1⟩ := greedy.open_accs (hval 1 24 v1 rfl rfl) h1
 have k2 := h2
 have lt2 : ∀ x ∈ p2, x.block < W.heap.size := by obtain ⟨m, hm⟩ := k2; exact DataW.trod_lt m _ _ _ hm
 obtain ⟨x2, rfl, f2⟩ := queue.open_tx (hval 2 31 v2 rfl rfl) h2
 clear hA0 hval0
 have hM : txn.Most W := txn.most_of_laid hL
 refine (walk C0 a1 n1 c1 l1 x2 W hM f0 f1 f2).mono fun e W' ⟨he, bel⟩ => ?_
 subst he
 exact ⟨_, rfl, _, _, _, [], _, [], hW', trodAll_mk1 (shut_bool Tryz.underlying4 _), (trodAll_cons_mk (Below.trod laidOut (by kernel_rfl) (of_decide_eq_true (by kernel_rfl)) k0 bel lt0) (trodAll_cons_mk (Below.trod laidOut (by kernel_rfl) (of_decide_eq_true (by kernel_rfl)) k1 bel lt1) (trodAll_cons_mk (Below.trod laidOut (by kernel_rfl) (of_decide_eq_true (by kernel_rfl)) k2 bel lt2) trodAll_mk0))), rfl, bel.frame _, fun h => by cases h⟩
theorem over : Rows.PoolBackSaid :=
 OpenClaim.holds_of_wide 7 Tryz.f7 rfl rfl rfl rfl rfl rfl rfl ⟨rfl, rfl, rfl, rfl, rfl⟩ rfl rfl rfl rfl rfl (by kernel_rfl) Tryz.func7 (by kernel_rfl)
  (of_decide_eq_true (by kernel_rfl)) (by unfold Func.isWrapper; first | (rw [if_pos (by decide +kernel)]; kernel_rfl) | (rw [if_neg (by decide +kernel)]; exact ⟨rfl, rfl⟩))
  (fun os started H enc _ => lifted os started H enc)
theorem proved : Rows.PoolBackCardSaid :=
 Claim7.holds_tied_plain_at .later [] [.data] true (true, "d7a6610ef8b400b1696ea98ccecb2799c1cff8b5abd6bf6f50ead7769ba5ae9c") false
  over (fun _ h => by cases h) (by kernel_rfl) (fun _ h => by cases h) poolBack_row_tie rfl ⟨rfl, rfl⟩ (by kernel_rfl) rfl
  (fun f fn hf hfn => by
   obtain rfl : f = 7 := (Option.some.inj ((show Tryz.prog.funcNamed "hopper/hopperlaw13.PoolBack" = some 7 by kernel_rfl).symm.trans hf)).symm
   obtain rfl : fn = Tryz.f7 := (Option.some.inj (Tryz.func7.symm.trans hfn)).symm
   exact ⟨by kernel_rfl, fun j t ht => by
    rw [Tryz.params7] at ht
    match j, ht with
    | 0, ht =>
     obtain rfl : t = 23 := by simpa using ht.symm
     exact (show Tryz.prog.wantsStandIn 23 = false by kernel_rfl)
    | 1, ht =>
     obtain rfl : t = 24 := by simpa using ht.symm
     exact (show Tryz.prog.wantsStandIn 24 = false by kernel_rfl)
    | 2, ht =>
     obtain rfl : t = 31 := by simpa using ht.symm
     exact (show Tryz.prog.wantsStandIn 31 = false by kernel_rfl)
    | j + 3, ht => simp at ht⟩)
  (by kernel_rfl)
#print axioms proved
end Go.Proofs.YtofpmnkkimgkfaaGreatDoor.poolBack
