/- hopper/hopperlaw13.PoolEvicts answers true at every input, and every argument reads behind the call as it read before; hopper/txn.most holds what the program's text lays there: the card ties it. No other condition. -/
import Derived.Test.YtofpmnkkimgkfaaGreatDoorRows
import Derived.Test.YtofpmnkkimgkfaaGreatDoorKTxn
import Derived.OpenShut
import Derived.ChangeOld
import Derived.LaidLaws
import Derived.Test.YtofpmnkkimgkfaaGreatDoorKPoAll
import Derived.Test.YtofpmnkkimgkfaaGreatDoorCards
import Derived.Test.YtofpmnkkimgkfaaGreatDoorTie
import Derived.WalkKit
import Derived.ProofKit
import Derived.ShutString
import Derived.Below
import Derived.Handed
import Derived.SevenTiedAt
set_option linter.all false
set_option maxHeartbeats 4000000
set_option maxRecDepth 100000
namespace Go.Proofs.YtofpmnkkimgkfaaGreatDoor.txn
open Go.RowKit Go.ChangeShapes Go.WideShapes
theorem most_of_laid {W : World} (h : laidMet Tryz.prog [("hopper/txn.most", Rows.laid_hopper_txn_most)] W) : Most W := by
 obtain ⟨ps, ⟨g, t, cs, fuel, p, q, hg, ht, hvar, hd, _, _⟩, _⟩ := h
 obtain rfl := Option.some.inj ((show Tryz.prog.globalNamed "hopper/txn.most" = some 0 by kernel_rfl).symm.trans hg)
 obtain rfl := Option.some.inj ((show (Tryz.prog.globals[0]?).map (·.type) = some 190 by kernel_rfl).symm.trans ht)
 obtain ⟨xs, m, _, hx, hlen, hn, hi⟩ := DataW.trod_array Tryz.underlying190 hd
 have h5 : cs.toList.length = 5 := hlen.trans (by kernel_rfl)
 obtain ⟨l⟩ := cs
 match l, h5 with
 | [c0, c1, c2, c3, c4], _ =>
  match xs, hn with
  | [y0, y1, y2, y3, y4], _ =>
   have k3 : Tryz.prog.cellsOf 3 = 1 := by kernel_rfl
   have g0 := hi 0 (by omega)
   have g1 := hi 1 (by omega)
   have g2 := hi 2 (by omega)
   have g3 := hi 3 (by omega)
   have g4 := hi 4 (by omega)
   simp [k3] at g0 g1 g2 g3 g4
   obtain ⟨a0, e0, f0, _⟩ := DataW.trod_int Tryz.underlying3 g0
   obtain ⟨a1, e1, f1, _⟩ := DataW.trod_int Tryz.underlying3 g1
   obtain ⟨a2, e2, f2, _⟩ := DataW.trod_int Tryz.underlying3 g2
   obtain ⟨a3, e3, f3, _⟩ := DataW.trod_int Tryz.underlying3 g3
   obtain ⟨a4, e4, f4, _⟩ := DataW.trod_int Tryz.underlying3 g4
   simp at e0 e1 e2 e3 e4
   subst e0 e1 e2 e3 e4 f0 f1 f2 f3 f4
   simp [Rows.laid_hopper_txn_most] at hx
   obtain ⟨⟨r0, r1, r2, r3, r4⟩, _⟩ := hx
   subst r0 r1 r2 r3 r4
   have z0 := World.var?_cell hg hvar 0
   have z1 := World.var?_cell hg hvar 1
   have z2 := World.var?_cell hg hvar 2
   have z3 := World.var?_cell hg hvar 3
   have z4 := World.var?_cell hg hvar 4
   have hz : 0 < W.heap.size := by
    rcases Nat.eq_zero_or_pos W.heap.size with h0 | h0
    ·exfalso
     simp [World.cell?, Array.getElem?_eq_none (show W.heap.size ≤ 0 by omega)] at z0
    ·exact h0
   exact ⟨by simpa using z0, by simpa using z1, by simpa using z2, by simpa using z3, by simpa using z4, hz⟩
end Go.Proofs.YtofpmnkkimgkfaaGreatDoor.txn
namespace Go.Proofs.YtofpmnkkimgkfaaGreatDoor.poolEvicts
open Go.RowKit Sx txn queue greedy shard pool
theorem tplP_le2 {P : List PA} (h : ∀ x ∈ P, x.2.2.length ≤ 20) (hn : P.length ≤ 1000) (g : Int) : (tplP P g).length ≤ 20000 := by
 unfold tplP templateV
 refine Nat.le_trans (pool.tplV_le _ _) ?_
 unfold sizeL
 have h1 : ((firstsV (P.map toA)).map fun x => lineV x.b x.l).length ≤ 1000 := by
  rw [List.length_map]
  have := firstsV_le (P.map toA) (P.map toA).length
  rw [List.take_length, List.length_map] at this
  omega
 refine Nat.le_trans (sum_le (k := 20) fun z hz => ?_) ?_
 ·obtain ⟨r, hr, rfl⟩ := List.mem_map.1 hz
  obtain ⟨x, hx, rfl⟩ := List.mem_map.1 hr
  obtain ⟨p, hp, rfl⟩ := List.mem_map.1 (firstsV_mem hx)
  exact Nat.le_trans (lineV_le _ _) (h p hp)
 ·rw [List.length_map]; omega
theorem do_at {C : Cf} {P : List PA} (hpb : pckB C P = true) {O : Oq} {R : Rs3} (e : doP C P O = R) (L : List Ac) (a : Option Addr) (n c : Nat) (w : World) (hL : L.map acP = P) (hM : Most w) (hA : Acs w a n c L) (h1000 : n ≤ 1000) (hd : O.d.size ≤ 1000000) (hG : O.g = 0) :
  Calls Tryz.prog 16 (List.toArray [C.val, .slice a n c, O.val]) w fun e w' => Ans w w' [] e R := by
 have hn := hA.2.1
 have := do_any C O L a n c w hM hA (by omega) hd (by omega) (by
  rw [hL]
  exact Nat.le_trans (tplP_le2 (fun x hx => by have := (get_few (.inr hpb)).1 x hx; omega) (by rw [← hL, List.length_map]; omega) O.g) (by omega))
 rw [hL, e] at this
 exact this
theorem drop_above {v b s : Int} {l : List Tx} (h : risesV s b l = true) (hb : v < b) : dropV v l = l := by
 unfold dropV
 exact List.filter_eq_self.2 fun y hy => by
  have := (queue.rises_all h y hy).2.2
  have : y.n ≠ v := by omega
  simpa using this
theorem drop_one {s : Int} {t : Tx} : ∀ {l : List Tx} {b : Int}, risesV s b l = true → t ∈ l → slotsL (dropV t.n l) = slotsL l - slotV t ∧ (dropV t.n l).length + 1 = l.length
 | [], _, _, h => by cases h
 | x :: l, b, hr, h => by
  obtain ⟨r1, r2, r3, r4⟩ := rises_cons hr
  rcases List.mem_cons.1 h with e | h
  ·subst e
   have e1 : dropV t.n (t :: l) = dropV t.n l := by unfold dropV; rw [List.filter_cons_of_neg (by simp)]
   rw [e1, drop_above r4 (by omega)]
   have e2 : slotsL (t :: l) = slotV t + slotsL l := by simp [slotsL]
   exact ⟨by omega, rfl⟩
  ·have h9 := (queue.rises_all r4 t h).2.2
   have hne : x.n ≠ t.n := by omega
   have e1 : dropV t.n (x :: l) = x :: dropV t.n l := by unfold dropV; rw [List.filter_cons_of_pos (by simpa using hne)]
   obtain ⟨i1, i2⟩ := drop_one r4 h
   rw [e1]
   have e2 : slotsL (x :: dropV t.n l) = slotV x + slotsL (dropV t.n l) := by simp [slotsL]
   have e3 : slotsL (x :: l) = slotV x + slotsL l := by simp [slotsL]
   exact ⟨by omega, by rw [List.length_cons, List.length_cons]; omega⟩
def sizP (P : List PA) : Nat := (P.map fun x => x.2.2.length).sum
theorem sizP_app (X Y : List PA) : sizP (X ++ Y) = sizP X + sizP Y := by simp [sizP]
theorem siz_three (P : List PA) (k : Int) : sizP P = sizP (P.filter fun x => decide (x.1 < k)) + sizP (ofK (fun x : PA => x.1) k P) + sizP (P.filter fun x => decide (k < x.1)) := by
 induction P with
 | nil => rfl
 | cons x P ih =>
  have e : ∀ L : List PA, sizP (x :: L) = x.2.2.length + sizP L := fun L => by simp [sizP]
  unfold ofK at *
  rcases Int.lt_trichotomy x.1 k with h | h | h
  ·rw [List.filter_cons_of_pos (by simpa using h), List.filter_cons_of_neg (by simp; omega), List.filter_cons_of_neg (by simp; omega), e, e]; omega
  ·rw [List.filter_cons_of_neg (by simp; omega), List.filter_cons_of_pos (by simpa using h), List.filter_cons_of_neg (by simp; omega), e, e]; omega
  ·rw [List.filter_cons_of_neg (by simp; omega), List.filter_cons_of_neg (by simp; omega), List.filter_cons_of_pos (by simpa using h), e, e]; omega
theorem siz_of {P : List PA} (hp : pool.Ord P) (k : Int) : sizP (ofK (fun x : PA => x.1) k P) = (getP P k).2.2.length := by
 rcases getP_or P k with ⟨h1, h2⟩ | ⟨h1, h2⟩
 ·have h3 := ofK_in hp h1
  rw [h2] at h3
  rw [h3]
  simp [sizP]
 ·rw [h1]
  have : ofK (fun x : PA => x.1) k P = [] := by
   unfold ofK
   exact List.filter_eq_nil_iff.2 fun x hx => by simpa using h2 x hx
  rw [this]
  rfl
theorem siz_set {P : List PA} (hp : pool.Ord P) (a : PA) : sizP (setP P a) + (getP P a.1).2.2.length = sizP P + a.2.2.length := by
 have h1 := siz_three P a.1
 rw [siz_of hp] at h1
 unfold setP
 rw [pool.setF_rise a hp]
 have e : sizP [a] = a.2.2.length := by simp [sizP]
 cases hem : emptyV a.2.1 a.2.2.length with
 | true =>
  have h2 : a.2.2.length = 0 := by unfold emptyV at hem; simp only [Bool.and_eq_true, decide_eq_true_eq] at hem; exact hem.2
  simp only [if_true, reduceIte]
  rw [sizP_app, sizP_app, show sizP ([] : List PA) = 0 from rfl]
  omega
 | false =>
  simp only [Bool.false_eq_true, if_false, reduceIte]
  rw [sizP_app, sizP_app, e]
  omega
theorem worst_last {C : Cf} {L : List Ac} (h : pckB C (L.map acP) = true) (hs : 0 < slotsP (L.map acP)) : ∃ t, worP (L.map acP) = t ∧ findV (getP (L.map acP) t.s).2.2 t.n = (t, true) ∧ (∃ k, (getP (L.map acP) t.s).2.2.length = k + 1 ∧ (getP (L.map acP) t.s).2.2[k]? = some t) ∧
  slotsL (dropV t.n (getP (L.map acP) t.s).2.2) = slotsL (getP (L.map acP) t.s).2.2 - slotV t ∧ (dropV t.n (getP (L.map acP) t.s).2.2).length + 1 = (getP (L.map acP) t.s).2.2.length ∧ t.d.size ≤ 500000 := by
 have hw : (worstV L).2 = true := by
  cases hw : (worstV L).2 with
  | true => rfl
  | false => have := worst_no hw; rw [slotsA_P] at this; omega
 refine ⟨(worstV L).1, (wor_P L).symm, ?_⟩
 have hwe : worstV L = ((worstV L).1, true) := by rw [← hw]
 obtain ⟨w1, w2⟩ := worst_at h hwe
 refine ⟨w1, ?_⟩
 obtain ⟨_, hg, ho, _⟩ := pck_iff.1 h
 have hin : (worstV L).1 ∈ lastsV L := by
  unfold worstV at hw ⊢
  split at hw
  ·rename_i h0
   rw [if_pos h0]
   have hlt : heap.worstTo (lastsV L) (lastsV L).length < (lastsV L).length := by have := heap.worstTo_lt (lastsV L) (lastsV L).length; omega
   exact List.mem_of_getElem? (nx_get hlt)
  ·cases hw
 generalize (worstV L).1 = t at *
 unfold lastsV lastsP at hin
 obtain ⟨r, hr, ht⟩ := List.mem_flatMap.1 hin
 obtain ⟨x, hx, rfl⟩ := List.mem_map.1 hr
 have hpos : 0 < x.l.length := by
  rcases Nat.eq_zero_or_pos x.l.length with e | e
  ·rw [lastL_nil e] at ht; cases ht
  ·exact e
 rw [lastL_pos hpos, List.mem_singleton] at ht
 have hlt : x.l.length - 1 < x.l.length := by omega
 have hx9 := nx_get hlt
 rw [← ht] at hx9
 have htl : t ∈ x.l := List.mem_of_getElem? hx9
 have hxP : acP x ∈ L.map acP := List.mem_map.2 ⟨x, hx, rfl⟩
 obtain ⟨⟨g1, g2, g3, g4, g5, g6, g7, g8⟩, _⟩ := good_iff.1 (hg _ hxP)
 have hs2 : t.s = (acP x).1 := (queue.rises_all g8 t htl).2.1
 have hok := (queue.rises_all g8 t htl).1
 rw [hs2, getP_in ho hxP]
 obtain ⟨d1, d2⟩ := drop_one g8 htl
 exact ⟨⟨x.l.length - 1, by show x.l.length = _; omega, hx9⟩, d1, d2, by unfold Tx.ok at hok; have := of_decide_eq_true hok; omega⟩
theorem do_6 {C : Cf} {P : List PA} (h : pckB C P = true) : doP C P ⟨6, 0, 0, 0, ByteArray.empty⟩ = evictR C P (worP P) := by unfold doP doR; rw [if_pos h]; rfl
theorem evict_step {C : Cf} {L : List Ac} (h : pckB C (L.map acP) = true) : (slotsP (L.map acP) ≤ C.so ∧ doP C (L.map acP) ⟨6, 0, 0, 0, ByteArray.empty⟩ = failP (L.map acP) 7) ∨
  (C.so < slotsP (L.map acP) ∧ ∃ t P', doP C (L.map acP) ⟨6, 0, 0, 0, ByteArray.empty⟩ = (P', ⟨0, t, [], 0⟩, [(3, t)]) ∧ pckB C P' = true ∧ sizP P' + 1 = sizP (L.map acP) ∧ slotsP P' = slotsP (L.map acP) - slotV t ∧ (∃ k, (getP (L.map acP) t.s).2.2.length = k + 1 ∧ (getP (L.map acP) t.s).2.2[k]? = some t) ∧ t.d.size ≤ 500000 ∧ P'.length ≤ L.length + 1) := by
 have hcf := (pck_iff.1 h).1
 have hso : 0 ≤ C.so := by unfold cfgB at hcf; have := of_decide_eq_true hcf; omega
 have hp := (pck_iff.1 h).2.2.1
 rw [do_6 h]
 unfold evictR
 by_cases hs : slotsP (L.map acP) ≤ C.so
 ·rw [if_pos hs]
  exact .inl ⟨hs, rfl⟩
 ·rw [if_neg hs]
  obtain ⟨t, e1, e2, e3, e4, e5, e6⟩ := worst_last h (by omega)
  rw [e1]
  have hd := dropP_ok h t.s t.n
  have hl : (setP (L.map acP) ((getP (L.map acP) t.s).1, (getP (L.map acP) t.s).2.1, dropV t.n (getP (L.map acP) t.s).2.2)).length ≤ (L.map acP).length + 1 := pool.setP_le _ _
  rw [List.length_map] at hl
  have hsl := slots_set hp ((getP (L.map acP) t.s).1, (getP (L.map acP) t.s).2.1, dropV t.n (getP (L.map acP) t.s).2.2)
  have hsz := siz_set hp ((getP (L.map acP) t.s).1, (getP (L.map acP) t.s).2.1, dropV t.n (getP (L.map acP) t.s).2.2)
  unfold dropP at hd ⊢
  rw [e2] at hd ⊢
  rw [if_pos rfl] at hd ⊢
  simp only [getP_s] at hsl hsz hd hl ⊢
  exact .inr ⟨by omega, t, _, rfl, hd, by omega, by omega, e3, e6, hl⟩
theorem siz_le {k : Nat} : ∀ {P : List PA}, (∀ x ∈ P, x.2.2.length ≤ k) → sizP P ≤ k * P.length
 | [], _ => Nat.zero_le _
 | x :: P, h => by
  have h1 := h x (.head _)
  have h2 := siz_le (P := P) fun y hy => h y (.tail _ hy)
  have e : sizP (x :: P) = x.2.2.length + sizP P := by simp [sizP]
  rw [e, List.length_cons, Nat.mul_succ]
  omega
theorem ev_at {κ : Int} {t : Tx} {j : Nat} {u : Value} (h : (cellsX t)[j]? = some u) : (cellsE [(κ, t)])[j + 1]? = some u := by
 match j, h with
 | 0, h => exact h
 | 1, h => exact h
 | 2, h => exact h
 | 3, h => exact h
 | 4, h => exact h
 | 5, h => exact h
 | j + 6, h => simp [cellsX] at h
section
variable {E : Sx.Env} {P : Program} {W : World} {G : Option Nat} {Q : Ending → World → Prop} {ds : List Deferred}
theorem readH (hE : Sx.Env.Ok E P) {ty : TypeId} {ad : Option Addr} {xs vs : List Value} {k sz o q n : Nat} {m : M} {K : Value → Tree} {a : Addr} (hty : lk E.agg ty = some (some q)) (hl : vs.length = q) (hm : rowF (pt ad n) xs ∈ m.facts) (hk : k < n) (ha : ad.isSome = true)
  (hx : ∀ (j : Nat) (u : Value), vs[j]? = some u → xs[k * sz + o + j]? = some u) (haddr : a = ((ad.getD ⟨0, 0, none⟩).add (k * sz)).add o) (h : (K (.agg vs.toArray)).wpD P W G Q ds) : (Tree.load ty a m K).wpD P W G Q ds := by
 rw [pt_pos hk] at hm
 refine ⟨.agg vs.toArray, fun β ρ w hM => ?_, h⟩
 cases ad with
 | none => cases ha
 | some ad =>
  have := hE.aggN ty q hty a w vs hl (fun j u hu => by
   have hc := (hM.at_ hm).cell (hx j u hu)
   rw [haddr]
   simp only [Option.getD_some]
   obtain ⟨b, o', sp⟩ := ad
   unfold Addr.add at hc ⊢
   by_cases h1 : k * sz = 0 <;> by_cases h2 : o = 0 <;> by_cases h3 : j = 0 <;> simp_all [Nat.add_assoc])
  rw [this]
end
theorem walk (C : Cf) (a : Option Addr) (n c : Nat) (L : List Ac) (w : World) (hM : Most w) (hC : True) (hI : AccsIn w a n c L) :
  Calls Tryz.prog 8 (List.toArray [C.val, .slice a n c]) w fun e w' => e = .returned (.bool true) ∧ Below w.heap.size w w' := by
 refine calls_of_exec Sxs.env_ok.keeps.soon_ Tryz.func8 rfl [(12, (line [0, 1, 2, 3, 4, 5, 7, 8, 9, 6, 10, 11, 12, 13, 14, 15, 16, 17, 18, 19, 20, 21, 22, 23, 24, 25, 26, 27, 28, 29, 30, 31], [])), (14, (line [0, 1, 2, 3, 4, 5, 6, 7, 8], []))] (schedQ_ok _ _ (by kernel_rfl)) (acsF a n L) hI.facts ?_
 have FW := fun w' (hM' : AccsIn w' a n c L) => fewW L 20 a n c w' hM'
 generalize hfb : (fewA L && decide ((n : Int) ≤ 20)) = fb at *
 conv=>arg 5;whnf
 refine meetc (f := 14) (v := .bool fb) rfl (by kernel_rfl) (fun β ρ w' hM' => FW w' (hI.mem hM' fun φ hφ => hφ)) ?_
 cases fb with
 | false =>
  conv=>arg 5;whnf
  refine meetc (f := 15) (v := .bool true) rfl (by kernel_rfl) (fun β ρ w' hM' => live w' (hM.later hM'.below)) ?_
  conv=>arg 5;whnf
  exact wp_back fun β ρ w' hM' => ⟨rfl, hM'.below⟩
 | true =>
  simp only [Bool.and_eq_true, decide_eq_true_eq] at hfb
  obtain ⟨hA, hx20⟩ := hI.few hfb.1
  have hn := hI.2.1
  have hn20 : n ≤ 20 := by omega
  have P1 := fun w hM hA => pcheck C L a n c w hM hA (by omega)
  cases hpb : pckB C (L.map acP) with
  | false =>
   rw [hpb] at P1
   conv=>arg 5;whnf
   refine meetc (f := 23) (v := .bool false) rfl (by kernel_rfl) (fun β ρ w' hM' => P1 w' (hM.later hM'.below) (Mem.acs hA hM' fun φ hφ => hφ)) ?_
   conv=>arg 5;whnf
   refine meetc (f := 15) (v := .bool true) rfl (by kernel_rfl) (fun β ρ w' hM' => live w' (hM.later hM'.below)) ?_
   conv=>arg 5;whnf
   exact wp_back fun β ρ w' hM' => ⟨rfl, hM'.below⟩
  | true =>
   rw [hpb] at P1
   conv=>arg 5;whnf
   refine meetc (f := 23) (v := .bool true) rfl (by kernel_rfl) (fun β ρ w' hM' => P1 w' (hM.later hM'.below) (Mem.acs hA hM' fun φ hφ => hφ)) ?_
   have hsz0 : sizP (L.map acP) ≤ 320 := by
    have h1 := siz_le (k := 16) (P := L.map acP) fun x hx => by
     have := (get_few (.inr hpb)).1 x hx
     omega
    rw [List.length_map] at h1
    omega
   subst hn
   conv=>arg 5;whnf
   refine loop_ruleE Sxs.env_ok.keeps.soon_ [(12, (line [0, 1, 2, 3, 4, 5, 7, 8, 9, 6, 10, 11, 12, 13, 14, 15, 16, 17, 18, 19, 20, 21, 22, 23, 24, 25, 26, 27, 28, 29, 30, 31], [])), (14, (line [0, 1, 2, 3, 4, 5, 6, 7, 8], []))] (schedQ_ok _ _ (by kernel_rfl)) [1, 1] (fun i : Nat × Option Addr × Nat × List Ac => i.1 + sizP (i.2.2.2.map acP) ≤ 320 ∧ pckB C (i.2.2.2.map acP) = true ∧ i.2.2.2.length ≤ 20 + i.1 ∧ Sl i.2.1 i.2.2.2.length i.2.2.1 ∧ ∀ x ∈ i.2.2.2, x.fit) (fun i => (⟨[some ([.v (.int .i64 C.sh), .v (.int .i64 C.so), .v (.int .i64 C.hd), .v (.int .i64 C.per), .v (.int .i64 C.bp), .v (.int .i64 C.fd), .v (.int .i64 C.wk), .v (.int .i64 C.rm)], 23)], [], acsF i.2.1 i.2.2.2.length i.2.2.2⟩, [.any, .v (.slice i.2.1 i.2.2.2.length i.2.2.1), .p 0 0, .any, .v (.bool false), .v (.int .i64 i.1), .any, .any, .any, .any, .any, .any, .any, .any, .any, .any, .any, .any, .any, .any, .any, .any, .any, .any, .any, .any, .any, .any, .any, .any, .any, .any, .any, .any, .any, .any, .any, .any, .any, .any, .any, .any, .any, .any, .any, .any, .any, .any, .any, .any, .any, .any, .any, .any, .any, .any, .any, .any, .any, .any, .any, .any, .any, .any, .any, .any, .any, .any, .any, .any, .any, .any, .any, .any, .any, .any, .any, .any, .any, .any, .any, .any, .any, .any, .any, .any, .any, .any, .any, .any, .any, .any, .any, .any, .any, .any, .any, .any, .any, .any, .any, .any, .any, .any, .any, .any, .any])) (fun i => 400 - i.1) (0, a, c, L) ⟨by show 0 + sizP (L.map acP) ≤ 320; omega, hpb, by show L.length ≤ 20 + 0; omega, hI.1, fun x hx => (hA.2.2.2 x hx).1⟩ ⟨by repeat' first | exact trivial | refine ⟨.inl rfl, ?_⟩ | refine ⟨.inr rfl, ?_⟩, ⟨by repeat' first | exact trivial | refine ⟨.inl rfl, ?_⟩ | refine ⟨.inr rfl, ?_⟩, by repeat' first | exact trivial | refine ⟨.inl rfl, ?_⟩ | refine ⟨.inr rfl, ?_⟩, fun _ h => h⟩, rfl⟩ ?_
   rintro ⟨k, a1, c1, M⟩ ⟨i1, i2, i3, i4, i5⟩
   have i1 : k + sizP (M.map acP) ≤ 320 := i1
   have i2 : pckB C (M.map acP) = true := i2
   have i3 : M.length ≤ 20 + k := i3
   have i4 : Sl a1 M.length c1 := i4
   have i5 : ∀ x ∈ M, x.fit := i5
   conv=>arg 5;whnf
   refine wp_br (fun h1 => ?_) (fun h1 => by have h2 : ¬ (k : Int) < 400 := of_decide_eq_false h1; omega)
   have S1 := fun w hM hA => pslots M a1 M.length c1 w hM hA (by omega)
   rw [slotsA_P] at S1
   have hes := evict_step i2
   have GT := fun s w hA => rget11 0 M a1 M.length c1 s w hA (by omega)
   have hsl0 : 0 ≤ slotsP (M.map acP) := by rw [← slotsA_P]; exact (slotsA_bd i5 (Nat.le_refl _)).1
   have hhd := (pck_iff.1 i2).2.2.2
   have hhd2 : C.hd ≤ 1000 := by have hcf := (pck_iff.1 i2).1; unfold cfgB at hcf; have := of_decide_eq_true hcf; omega
   generalize hQ : M.map acP = Q at *
   generalize slotsP Q = sl at *
   conv=>arg 5;whnf
   refine meetc (f := 25) (v := .int .i64 sl) rfl (by kernel_rfl) (fun β ρ w' hM' => S1 w' (hM.later hM'.below) (acs_of hM' i4 rfl i5 fun φ hφ => hφ)) ?_
   rcases hes with ⟨q1, q2⟩ | ⟨q1, t, Q2, q2, q3, q4, q5, ⟨κ, q6, q7⟩, q8, q9⟩
   ·skip
    conv=>arg 5;whnf
    refine meetAn (f := 16) (failP Q 7) [] (by simp) rfl (by kernel_rfl) (fun β ρ w' hM' => do_at i2 q2 M a1 M.length c1 w' hQ (hM.later hM'.below) (acs_of hM' i4 rfl i5 fun φ hφ => hφ) (by omega) (Nat.zero_le _) rfl) (fun x hx _ => ?_)
    conv=>arg 5;whnf
    refine wp_g1 (fun _ => ?_) (fun h => absurd q1 (of_decide_eq_false h))
    conv=>arg 5;whnf
    refine meetc (f := 15) (v := .bool true) rfl (by kernel_rfl) (fun β ρ w' hM' => live w' (hM.later hM'.below)) ?_
    conv=>arg 5;whnf
    exact wp_back fun β ρ w' hM' => ⟨rfl, hM'.below⟩
   ·have GT := GT t.s
    generalize getP Q t.s = p at *
    conv=>arg 5;whnf
    refine meetAn (f := 16) (Q2, ⟨0, t, [], 0⟩, [(3, t)]) [] (by simp) rfl (by kernel_rfl) (fun β ρ w' hM' => do_at i2 q2 M a1 M.length c1 w' hQ (hM.later hM'.below) (acs_of hM' i4 rfl i5 fun φ hφ => hφ) (by omega) (Nat.zero_le _) rfl) (fun x hx _ => ?_)
    obtain ⟨x1, x2, x3, x4, x5⟩ := hx
    have x1 : x.L.map acP = Q2 := x1
    have x5 : Sl x.ea 1 x.ec := x5
    conv=>arg 5;whnf
    refine meetAc (f := 33) p (acsF a1 M.length M) (fun ψ h => (show ψ ∈ x.fs (Q2, ⟨0, t, [], 0⟩, [(3, t)]) ++ acsF a1 M.length M from List.mem_append_right _ h)) rfl (by kernel_rfl) (fun β ρ w' hM' => GT w' (acs_of hM' i4 rfl i5 fun φ hφ => (show φ ∈ x.fs (Q2, ⟨0, t, [], 0⟩, [(3, t)]) ++ acsF a1 M.length M from List.mem_append_right _ hφ))) (fun u c_u h_u f_u => ?_)
    have hul := h_u.le
    have xl : x.L.length ≤ 1000 := by have h9 := congrArg List.length x1; rw [List.length_map] at h9; omega
    have S2 := fun w hM hA => pslots x.L x.a x.L.length x.c w hM hA (by omega)
    rw [slotsA_P, x1, q5] at S2
    have hsv := queue.slotV_bd t
    have ST := fun w => txn.rslots t w (by unfold maxLen; omega)
    generalize slotV t = sv at *
    conv=>arg 5;whnf
    refine wp_g0 (fun _ => ?_) (fun h => by have h9 : sl ≤ C.so := of_decide_eq_true h; omega)
    conv=>arg 5;whnf
    refine meetc (f := 25) (v := .int .i64 (sl - sv)) rfl (by kernel_rfl) (fun β ρ w' hM' => S2 w' (hM.later hM'.below) (acs_of hM' x3 rfl x2 fun φ hφ => (show φ ∈ rowF (pt u p.2.2.length) (cellsL p.2.2) :: (x.fs (Q2, ⟨0, t, [], 0⟩, [(3, t)]) ++ acsF a1 M.length M) from .tail _ (List.mem_append_left _ (.tail _ (.tail _ hφ)))))) ?_
    conv=>arg 5;whnf
    refine meetc (f := 40) (v := .int .i64 sv) rfl (by kernel_rfl) (fun β ρ w' hM' => ST w') ?_
    conv=>arg 5;whnf
    refine wp_must ⟨by omega, by omega⟩ ?_
    conv=>arg 5;whnf
    refine wp_g0 (fun _ => ?_) (fun h => by simp at h)
    conv=>arg 5;whnf
    refine wp_must ⟨by decide, by show (0 : Int) < ((1 : Nat) : Int); decide, x5.some (show 0 < 1 by decide)⟩ ?_
    conv=>arg 5;whnf
    refine readH Sxs.env_ok (sz := 8) (k := 0) (o := 1) (vs := cellsX t) rfl rfl (show rowF (pt x.ea 1) (cellsE [(3, t)]) ∈ rowF (pt u p.2.2.length) (cellsL p.2.2) :: (x.fs (Q2, ⟨0, t, [], 0⟩, [(3, t)]) ++ acsF a1 M.length M) from .tail _ (List.mem_append_left _ (.tail _ (.head _)))) (show 0 < 1 by decide) (x5.some (show 0 < 1 by decide)) (fun j u hu => by rw [show 0 * 8 + 1 + j = j + 1 by omega]; exact ev_at hu) rfl ?_
    conv=>arg 5;whnf
    refine wp_prim (.bool false) (fun w => by have := neq_any (.tmp 88) (.tmp 90) t t w; rw [show sameT t t = true from (sameT_iff t t).2 rfl] at this; exact this) ?_
    conv=>arg 5;whnf
    refine wp_br (fun h => by have h9 : (p.2.2.length : Int) = 0 := (by simpa using h); omega) (fun _ => ?_)
    conv=>arg 5;whnf
    refine wp_must ⟨by omega, by omega⟩ ?_
    conv=>arg 5;whnf
    refine wp_must ⟨by omega, by omega, h_u.some (show κ < p.2.2.length by omega)⟩ ?_
    conv=>arg 5;whnf
    refine readX (l := p.2.2) (k := κ) (x := t) rfl (.head _) (by omega) (h_u.some (show κ < p.2.2.length by omega)) q7 (by rw [show ((p.2.2.length : Int) - 1).toNat = κ by omega]) ?_
    conv=>arg 5;whnf
    refine wp_prim (.bool false) (fun w => by have := neq_any (.tmp 102) (.tmp 104) t t w; rw [show sameT t t = true from (sameT_iff t t).2 rfl] at this; exact this) ?_
    conv=>arg 5;whnf
    refine wp_must ⟨by omega, by omega⟩ ?_
    conv=>arg 5;whnf
    refine wp_end ⟨(k + 1, x.a, x.c, x.L), ⟨by show k + 1 + sizP (x.L.map acP) ≤ 320; rw [x1]; omega, by show pckB C (x.L.map acP) = true; rw [x1]; exact q3, by show x.L.length ≤ 20 + (k + 1); have h9 := congrArg List.length x1; rw [List.length_map] at h9; omega, x3, x2⟩, ⟨by repeat' first | exact trivial | refine ⟨.inl rfl, ?_⟩ | refine ⟨.inr rfl, ?_⟩, ⟨by repeat' first | exact trivial | refine ⟨.inl rfl, ?_⟩ | refine ⟨.inr rfl, ?_⟩, by repeat' first | exact trivial | refine ⟨.inl rfl, ?_⟩ | refine ⟨.inr rfl, ?_⟩, fun φ hφ => (show φ ∈ rowF (pt u p.2.2.length) (cellsL p.2.2) :: (x.fs (Q2, ⟨0, t, [], 0⟩, [(3, t)]) ++ acsF a1 M.length M) from .tail _ (List.mem_append_left _ (.tail _ (.tail _ hφ))))⟩, rfl⟩, by show 400 - (k + 1) < 400 - k; omega⟩
end Go.Proofs.YtofpmnkkimgkfaaGreatDoor.poolEvicts
namespace Go.Proofs.YtofpmnkkimgkfaaGreatDoor.poolEvicts
open Go.ChangeShapes Go.WideShapes Go.ChangeAt Go.RowKit
open Go.ChangeMaps (open_string shut_string)
theorem own : ownKnob Tryz.prog.godebug = none := by kernel_rfl
theorem laidOut : laidOutB Tryz.prog = true := by kernel_rfl
noncomputable def laidWorld (os : Os) : World :=
 let w0 := World.holding Tryz.prog os ⟨#[], #[], []⟩
 { w0 with heap := w0.heap.modify 0 fun
   | .cells _ t frozen => .cells #[.int .i64 255, .int .i64 4294967295, .int .i64 1099511627776, .int .i64 1099511627776, .int .i64 1073741824] t frozen
   | o => o }
theorem laid_met (os : Os) (args : Array Value) : laidMet Tryz.prog Rows.poolEvictsRow.laid ((laidWorld os).forCall (fun _ _ => 0) ⟨#[], args, []⟩).memory :=
 laidMet_of_run (ps := [.cell 0 0, .cell 0 1, .cell 0 2, .cell 0 3, .cell 0 4]) 8 (by kernel_rfl) (by kernel_rfl) (by kernel_rfl)
theorem lifted (os : Os) (started : os.Started) (H : Type) (enc : TypeId × Value → H) :
  ReturnsInHanded {} Tryz.checked os 8 .any (fun w args => (Rows.poolEvictsSpec.pre enc Tryz.prog Tryz.f8 Rows.poolEvictsRow.domain false w args ∧ laidMet Tryz.prog Rows.poolEvictsRow.laid w) ∧ sizedMet enc Tryz.prog Tryz.f8 (OpenSpec.ofChange Rows.poolEvictsSpec) false w args) (Rows.poolEvictsSpec.post enc Tryz.prog Tryz.f8 false true false false) := by
 refine returnsInHanded_of_change_and (C := Tryz.checked) (X := fun w _ => laidMet Tryz.prog Rows.poolEvictsRow.laid w) (fun _ _ _ hh h => h.of_heap hh) own started (by kernel_rfl) Tryz.func8
  (ChangeSpec.witness_at (enc := enc) (C := Tryz.checked) (os := os) (X := fun w _ => laidMet Tryz.prog Rows.poolEvictsRow.laid w) false (laidWorld os) #[.agg #[.int .i64 0, .int .i64 0, .int .i64 0, .int .i64 0, .int .i64 0, .int .i64 0, .int .i64 0, .int .i64 0], .slice none 0 0] 8 rfl (by kernel_rfl) (by kernel_rfl) (by kernel_rfl) (by kernel_rfl) (by kernel_rfl) (laid_met os _)) ?_
 intro W base args ds gs before hval0 hW hcnd _ hL _
 have hval : ∀ (j : Nat) t v, Tryz.f8.params[j]? = some t → args[j]? = some v → Value.okWide Tryz.prog W .any base t v := hval0
 have hW' := hW
 obtain ⟨p, q, hA0, hV, rfl, hfz, hnd⟩ := hW
 have hA : DataW.TrodAll enc Tryz.prog W 0 (fun _ => true) true Tryz.f8.params.toList args.toList ds p := hA0
 rw [Tryz.params8] at hA hval
 obtain ⟨v0, vs0, d0, ds0, p0, q0, hargs, rfl, rfl, h0, r0⟩ := trodAll_cons hA
 obtain ⟨v1, vs1, d1, ds1, p1, q1, rfl, rfl, rfl, h1, r1⟩ := trodAll_cons r0
 obtain ⟨rfl, rfl, rfl⟩ := trodAll_nil r1
 obtain rfl : args = #[v0, v1] := by cases args; simp_all
 obtain ⟨rfl, rfl⟩ := trodVars_none hV
 have k0 := h0
 have lt0 : ∀ x ∈ p0, x.block < W.heap.size := by obtain ⟨m, hm⟩ := k0; exact DataW.trod_lt m _ _ _ hm
 obtain ⟨C0, rfl, f0⟩ := pool.open_cfg (hval 0 23 v0 rfl rfl) h0
 have k1 := h1
 have lt1 : ∀ x ∈ p1, x.block < W.heap.size := by obtain ⟨m, hm⟩ := k1; exact DataW.trod_lt m _ _ _ hm
 obtain ⟨a1, n1, c1, l1, rfl, f1⟩ := greedy.open_accs (hval 1 24 v1 rfl rfl) h1
 clear hA0 hval0
 have hM : txn.Most W := txn.most_of_laid hL
 refine (walk C0 a1 n1 c1 l1 W hM f0 f1).mono fun e W' ⟨he, bel⟩ => ?_
 subst he
 exact ⟨_, rfl, _, _, _, [], _, [], hW', trodAll_mk1 (shut_bool Tryz.underlying4 _), (trodAll_cons_mk (Below.trod laidOut (by kernel_rfl) (of_decide_eq_true (by kernel_rfl)) k0 bel lt0) (trodAll_cons_mk (Below.trod laidOut (by kernel_rfl) (of_decide_eq_true (by kernel_rfl)) k1 bel lt1) trodAll_mk0)), rfl, bel.frame _, fun h => by cases h⟩
theorem over : Rows.PoolEvictsSaid :=
 OpenClaim.holds_of_wide 8 Tryz.f8 rfl rfl rfl rfl rfl rfl rfl ⟨rfl, rfl, rfl, rfl, rfl⟩ rfl rfl rfl rfl rfl (by kernel_rfl) Tryz.func8 (by kernel_rfl)
  (of_decide_eq_true (by kernel_rfl)) (by unfold Func.isWrapper; first | (rw [if_pos (by decide +kernel)]; kernel_rfl) | (rw [if_neg (by decide +kernel)]; exact ⟨rfl, rfl⟩))
  (fun os started H enc _ => lifted os started H enc)
theorem proved : Rows.PoolEvictsCardSaid :=
 Claim7.holds_tied_plain_at .later [] [.data] true (true, "d7a6610ef8b400b1696ea98ccecb2799c1cff8b5abd6bf6f50ead7769ba5ae9c") false
  over (fun _ h => by cases h) (by kernel_rfl) (fun _ h => by cases h) poolEvicts_row_tie rfl ⟨rfl, rfl⟩ (by kernel_rfl) rfl
  (fun f fn hf hfn => by
   obtain rfl : f = 8 := (Option.some.inj ((show Tryz.prog.funcNamed "hopper/hopperlaw13.PoolEvicts" = some 8 by kernel_rfl).symm.trans hf)).symm
   obtain rfl : fn = Tryz.f8 := (Option.some.inj (Tryz.func8.symm.trans hfn)).symm
   exact ⟨by kernel_rfl, fun j t ht => by
    rw [Tryz.params8] at ht
    match j, ht with
    | 0, ht =>
     obtain rfl : t = 23 := by simpa using ht.symm
     exact (show Tryz.prog.wantsStandIn 23 = false by kernel_rfl)
    | 1, ht =>
     obtain rfl : t = 24 := by simpa using ht.symm
     exact (show Tryz.prog.wantsStandIn 24 = false by kernel_rfl)
    | j + 2, ht => simp at ht⟩)
  (by kernel_rfl)
#print axioms proved
end Go.Proofs.YtofpmnkkimgkfaaGreatDoor.poolEvicts
