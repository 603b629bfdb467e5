/- hopper/hopperlaw15.LookBack answers true at every input, and every argument reads behind the call as it read before; hopper/txn.most holds what the program's text lays there: the card ties it. No other condition. -/
import Derived.Test.YtofpmnkkimgkfaaDoorRows
import Derived.Test.YtofpmnkkimgkfaaDoorKTxn
import Derived.OpenShut
import Derived.ChangeOld
import Derived.LaidLaws
import Derived.Test.YtofpmnkkimgkfaaDoorKLkL
import Derived.Test.YtofpmnkkimgkfaaDoorKLkTop
import Derived.Test.YtofpmnkkimgkfaaDoorKPoAll
import Derived.Test.YtofpmnkkimgkfaaDoorCards
import Derived.Test.YtofpmnkkimgkfaaDoorTie
import Derived.WalkKit
import Derived.ProofKit
import Derived.ShutString
import Derived.Below
import Derived.Handed
import Derived.SevenTiedAt
set_option linter.all false
set_option maxHeartbeats 4000000
set_option maxRecDepth 100000
namespace Go.Proofs.YtofpmnkkimgkfaaDoor.txn
open Go.RowKit Go.ChangeShapes Go.WideShapes
theorem most_of_laid {W : World} (h : laidMet Tryd.prog [("hopper/txn.most", Rows.laid_hopper_txn_most)] W) : Most W := by
 obtain ⟨ps, ⟨g, t, cs, fuel, p, q, hg, ht, hvar, hd, _, _⟩, _⟩ := h
 obtain rfl := Option.some.inj ((show Tryd.prog.globalNamed "hopper/txn.most" = some 0 by kernel_rfl).symm.trans hg)
 obtain rfl := Option.some.inj ((show (Tryd.prog.globals[0]?).map (·.type) = some 93 by kernel_rfl).symm.trans ht)
 obtain ⟨xs, m, _, hx, hlen, hn, hi⟩ := DataW.trod_array Tryd.underlying93 hd
 have h5 : cs.toList.length = 5 := hlen.trans (by kernel_rfl)
 obtain ⟨l⟩ := cs
 match l, h5 with
 | [c0, c1, c2, c3, c4], _ =>
  match xs, hn with
  | [y0, y1, y2, y3, y4], _ =>
   have k3 : Tryd.prog.cellsOf 3 = 1 := by kernel_rfl
   have g0 := hi 0 (by omega)
   have g1 := hi 1 (by omega)
   have g2 := hi 2 (by omega)
   have g3 := hi 3 (by omega)
   have g4 := hi 4 (by omega)
   simp [k3] at g0 g1 g2 g3 g4
   obtain ⟨a0, e0, f0, _⟩ := DataW.trod_int Tryd.underlying3 g0
   obtain ⟨a1, e1, f1, _⟩ := DataW.trod_int Tryd.underlying3 g1
   obtain ⟨a2, e2, f2, _⟩ := DataW.trod_int Tryd.underlying3 g2
   obtain ⟨a3, e3, f3, _⟩ := DataW.trod_int Tryd.underlying3 g3
   obtain ⟨a4, e4, f4, _⟩ := DataW.trod_int Tryd.underlying3 g4
   simp at e0 e1 e2 e3 e4
   subst e0 e1 e2 e3 e4 f0 f1 f2 f3 f4
   simp [Rows.laid_hopper_txn_most] at hx
   obtain ⟨⟨r0, r1, r2, r3, r4⟩, _⟩ := hx
   subst r0 r1 r2 r3 r4
   have z0 := World.var?_cell hg hvar 0
   have z1 := World.var?_cell hg hvar 1
   have z2 := World.var?_cell hg hvar 2
   have z3 := World.var?_cell hg hvar 3
   have z4 := World.var?_cell hg hvar 4
   have hz : 0 < W.heap.size := by
    rcases Nat.eq_zero_or_pos W.heap.size with h0 | h0
    ·exfalso
     simp [World.cell?, Array.getElem?_eq_none (show W.heap.size ≤ 0 by omega)] at z0
    ·exact h0
   exact ⟨by simpa using z0, by simpa using z1, by simpa using z2, by simpa using z3, by simpa using z4, hz⟩
end Go.Proofs.YtofpmnkkimgkfaaDoor.txn
namespace Go.Proofs.YtofpmnkkimgkfaaDoor.lookBack
open Go.RowKit Sx txn queue greedy shard pool Go.Proofs.YtofpmnkkimgkfaaDoor.look
theorem drop_putGo (t : Tx) : ∀ {l : List Tx}, (∀ x ∈ l, x.n ≠ t.n) → dropV t.n (putGo false t l false) = l
 | [], _ => by rw [putGo_nil]; simp [dropV]
 | x :: l, h => by
  have hx : (x.n == t.n) = false := by simpa using h x (.head _)
  have hl : ∀ y ∈ l, y.n ≠ t.n := fun y hy => h y (.tail _ hy)
  rw [putGo_cons, hx, cond_false]
  have hd : ∀ {r : List Tx}, (∀ y ∈ r, y.n ≠ t.n) → dropV t.n r = r := fun hr => by
   unfold dropV
   exact List.filter_eq_self.2 fun y hy => by simpa using hr y hy
  cases (!false && decide (x.n > t.n)) with
  | true =>
   rw [cond_true]
   have e : dropV t.n (t :: x :: l) = dropV t.n (x :: l) := by unfold dropV; rw [List.filter_cons_of_neg (by simp)]
   rw [e, hd h]
  | false =>
   rw [cond_false]
   have e : dropV t.n (x :: putGo false t l false) = x :: dropV t.n (putGo false t l false) := by unfold dropV; rw [List.filter_cons_of_pos (by simpa using h x (.head _))]
   rw [e, drop_putGo t hl]
theorem drop_put {t : Tx} {l : List Tx} (h : (findV l t.n).2 = false) : dropV t.n (putV t l) = l := by
 unfold putV
 rw [h]
 exact drop_putGo t (findV_no h)
theorem look_back {per bump : Int} {p : PA} {t : Tx} (hn : (findV p.2.2 t.n).2 = false) (h : (lookL per bump p ⟨0, 0, 0, 0, pool.bz t⟩).r.e = 0) :
  ∃ P, lookL per bump p ⟨0, 0, 0, 0, pool.bz t⟩ = P ∧ P = ⟨true, P.dl, p.1, p.2.1, P.l, [(1, t)], ⟨0, tx0, [], 0⟩⟩ ∧ -13 ≤ P.dl ∧ P.dl ≤ 13 ∧ P.l.length ≤ p.2.2.length + 1 ∧ (∀ x ∈ P.l, x ∈ p.2.2 ∨ x = t) ∧
   lookL per bump (p.1, p.2.1, P.l) ⟨3, 0, t.n, 0, ByteArray.empty⟩ = ⟨false, 0, 0, 0, [], [], ⟨0, t, [], 0⟩⟩ ∧ lookL per bump (p.1, p.2.1, P.l) ⟨1, 0, t.n, 0, ByteArray.empty⟩ = ⟨true, -P.dl, p.1, p.2.1, p.2.2, [(3, t)], ⟨0, t, [], 0⟩⟩ := by
 have hl : lookL per bump p ⟨0, 0, 0, 0, pool.bz t⟩ = addL per bump p (pool.bz t) := rfl
 rw [hl] at h ⊢
 have hok : t.ok = true := by
  cases hok : t.ok with
  | true => rfl
  | false =>
   have e : dec (pool.bz t).data.toList = none := by
    unfold pool.bz encV
    rw [hok]
    rfl
   have e2 : addL per bump p (pool.bz t) = failL 2 := by unfold addL; rw [e]
   rw [e2] at h
   cases h
 rcases addL_cases per bump p (pool.bz t) with ⟨e, he, k⟩ | ⟨t', κ, k1, k2, k3, k⟩
 ·rw [k] at h
  exact absurd h he
 ·rw [dec_bz hok] at k1
  cases k1
  rw [hn] at k3
  have k3 : κ = 1 := k3
  subst k3
  have pb := putV_bd t p.2.2
  have po := pool.placeV_ok k2
  have pl := (placed k2).2
  refine ⟨_, k, rfl, ?_, ?_, pb.1, pb.2, ?_, ?_⟩
  ·show -13 ≤ slotsL (putV t p.2.2) - slotsL p.2.2
   omega
  ·show slotsL (putV t p.2.2) - slotsL p.2.2 ≤ 13
   omega
  ·have e : lookL per bump (p.1, p.2.1, putV t p.2.2) ⟨3, 0, t.n, 0, ByteArray.empty⟩ = getL (p.1, p.2.1, putV t p.2.2) t.n := rfl
   show lookL per bump (p.1, p.2.1, putV t p.2.2) ⟨3, 0, t.n, 0, ByteArray.empty⟩ = _
   rw [e]
   unfold getL
   rw [show findV ((p.1, p.2.1, putV t p.2.2) : PA).2.2 t.n = (t, true) from putV_find t _]
   rfl
  ·have e : lookL per bump (p.1, p.2.1, putV t p.2.2) ⟨1, 0, t.n, 0, ByteArray.empty⟩ = dropL (p.1, p.2.1, putV t p.2.2) t.n := rfl
   show lookL per bump (p.1, p.2.1, putV t p.2.2) ⟨1, 0, t.n, 0, ByteArray.empty⟩ = ⟨true, -(slotsL (putV t p.2.2) - slotsL p.2.2), p.1, p.2.1, p.2.2, [(3, t)], ⟨0, t, [], 0⟩⟩
   rw [e]
   rcases dropL_cases (p.1, p.2.1, putV t p.2.2) t.n with k | ⟨x, k1, k⟩
   ·have : dropL (p.1, p.2.1, putV t p.2.2) t.n ≠ failL 7 := by
     unfold dropL
     rw [show findV ((p.1, p.2.1, putV t p.2.2) : PA).2.2 t.n = (t, true) from putV_find t _]
     intro h
     have := congrArg Pl.ch h
     cases this
    exact absurd k this
   ·rw [show findV ((p.1, p.2.1, putV t p.2.2) : PA).2.2 t.n = (t, true) from putV_find t _] at k1
    cases k1
    rw [k]
    show (⟨true, slotsL (dropV t.n (putV t p.2.2)) - slotsL (putV t p.2.2), p.1, p.2.1, dropV t.n (putV t p.2.2), [(3, t)], ⟨0, t, [], 0⟩⟩ : Pl) = _
    rw [drop_put hn, show slotsL p.2.2 - slotsL (putV t p.2.2) = -(slotsL (putV t p.2.2) - slotsL p.2.2) by omega]
theorem ev_at {κ : Int} {t : Tx} {j : Nat} {u : Value} (h : (cellsX t)[j]? = some u) : (cellsE [(κ, t)])[j + 1]? = some u := by
 match j, h with
 | 0, h => exact h
 | 1, h => exact h
 | 2, h => exact h
 | 3, h => exact h
 | 4, h => exact h
 | 5, h => exact h
 | j + 6, h => simp [cellsX] at h
section
variable {E : Sx.Env} {P : Program} {W : World} {G : Option Nat} {Q : Ending → World → Prop} {ds : List Deferred}
theorem readH (hE : Sx.Env.Ok E P) {ty : TypeId} {ad : Option Addr} {xs vs : List Value} {k sz o q n : Nat} {m : M} {K : Value → Tree} {a : Addr} (hty : lk E.agg ty = some (some q)) (hl : vs.length = q) (hm : rowF (pt ad n) xs ∈ m.facts) (hk : k < n) (ha : ad.isSome = true)
  (hx : ∀ (j : Nat) (u : Value), vs[j]? = some u → xs[k * sz + o + j]? = some u) (haddr : a = ((ad.getD ⟨0, 0, none⟩).add (k * sz)).add o) (h : (K (.agg vs.toArray)).wpD P W G Q ds) : (Tree.load ty a m K).wpD P W G Q ds := by
 rw [pt_pos hk] at hm
 refine ⟨.agg vs.toArray, fun β ρ w hM => ?_, h⟩
 cases ad with
 | none => cases ha
 | some ad =>
  have := hE.aggN ty q hty a w vs hl (fun j u hu => by
   have hc := (hM.at_ hm).cell (hx j u hu)
   rw [haddr]
   simp only [Option.getD_some]
   obtain ⟨b, o', sp⟩ := ad
   unfold Addr.add at hc ⊢
   by_cases h1 : k * sz = 0 <;> by_cases h2 : o = 0 <;> by_cases h3 : j = 0 <;> simp_all [Nat.add_assoc])
  rw [this]
end
theorem rsmallB (s b : Int) (l : List Tx) (a : Option Addr) (n c : Nat) (w : World) (hs : Sl a n c) (hn : n = l.length) (hrow : At w (pt a n) (cellsL l)) :
  Calls Tryd.prog 7 (List.toArray [acc s b a n c]) w fun e w' => e = .returned (.bool (fewB l && decide ((n : Int) ≤ 30))) ∧ Below w.heap.size w w' := by
 refine calls_of_exec Sxk.env_ok.keeps.soon_ Tryd.func7 rfl [] (schedQ_ok _ _ (by kernel_rfl)) [rowF (pt a n) (cellsL l)] (at1 hrow) ?_
 conv=>arg 5;whnf
 refine meetc rfl (by kernel_rfl) (fun β ρ w' hM' => rfew l a n c 30 w' hs hn (hM'.at_ List.mem_cons_self)) ?_
 conv=>arg 5;whnf
 exact wp_back fun β ρ w' hM' => ⟨rfl, hM'.below⟩
theorem walk (C : Cf) (s b : Int) (a : Option Addr) (n c : Nat) (l : List Tx) (t : Tx) (w : World) (hM : Most w) (hC : True) (h : Sl a n c ∧ n = l.length ∧ At w (pt a n) (cellsL l) ∧ (∀ x ∈ l, Tx.fits x) ∧ Fits s ∧ Fits b) (hT : Tx.fits t) :
  Calls Tryd.prog 5 (List.toArray [C.val, .agg #[.int .i64 s, .int .i64 b, .slice a n c], t.val]) w fun e w' => e = .returned (.bool true) ∧ Below w.heap.size w w' := by
 obtain ⟨hs, hn, hrow, hft, hfs, hfb⟩ := h
 subst hn
 have hd : ∀ x ∈ l, x.d.size ≤ maxLen := fun x hx => (hft x hx).2.2.2.2.2
 have FW := fun w' hr => rsmallB s b l a l.length c w' hs rfl hr
 have htd : t.d.size ≤ maxLen := hT.2.2.2.2.2
 have SM := fun w => queue.rsmall t w
 have EN := fun w => rencode t w htd
 have hbzs : t.d.size ≤ 500 → (pool.bz t).size ≤ 1000000 := fun h => by have := encV_len t; show (encV t).toArray.size ≤ 1000000; rw [List.size_toArray]; omega
 generalize hsm : decide (t.d.size ≤ 500) = sm at *
 generalize hfb1 : (fewB l && decide ((l.length : Int) ≤ 30)) = fb at *
 refine calls_of_exec Sxk.env_ok.keeps.soon_ Tryd.func5 rfl [(10, (line [0, 1, 2, 3, 4, 5, 6, 7, 8, 9, 10, 11, 12, 13, 14, 15, 16, 17, 18, 19, 20, 21, 22, 23, 24, 25, 26, 27, 28, 29, 30, 31, 32, 33, 34, 35, 36, 37, 38, 39, 40, 41, 42, 43, 44, 45, 46, 47, 48, 49, 50, 51], []))] (schedQ_ok _ _ (by kernel_rfl)) [rowF (pt a l.length) (cellsL l)] (at1 hrow) ?_
 conv=>arg 5;whnf
 refine meetc (f := 7) (v := .bool fb) rfl (by kernel_rfl) (fun β ρ w' hM' => FW w' (hM'.at_ (.head _))) ?_
 cases fb with
 | false =>
  conv=>arg 5;whnf
  refine meetc (f := 8) (v := .bool true) rfl (by kernel_rfl) (fun β ρ w' hM' => live w' (hM.later hM'.below)) ?_
  conv=>arg 5;whnf
  exact wp_back fun β ρ w' hM' => ⟨rfl, hM'.below⟩
 | true =>
  conv=>arg 5;whnf
  refine meetc (f := 23) (v := .bool sm) rfl (by kernel_rfl) (fun β ρ w' hM' => SM w') ?_
  cases sm with
  | false =>
   conv=>arg 5;whnf
   refine meetc (f := 8) (v := .bool true) rfl (by kernel_rfl) (fun β ρ w' hM' => live w' (hM.later hM'.below)) ?_
   conv=>arg 5;whnf
   exact wp_back fun β ρ w' hM' => ⟨rfl, hM'.below⟩
  | true =>
   have hbz := hbzs (of_decide_eq_true hsm)
   have hl30 : l.length ≤ 30 := by
    simp only [Bool.and_eq_true, decide_eq_true_eq] at hfb1
    omega
   have hl : l.length ≤ 1000000 := by omega
   have FI := fun w hr => rfind s b l a l.length c t.n w hs rfl hr
   have hbk := @look_back C.per C.bp (s, b, l) t
   have L1 := fun w hM hr => look.look C (s, b, l) a c ⟨0, 0, 0, 0, pool.bz t⟩ w hM hs hr hl hd hbz
   generalize findV l t.n = fq at *
   obtain ⟨ft, fd⟩ := fq
   generalize hP : lookL C.per C.bp (s, b, l) ⟨0, 0, 0, 0, pool.bz t⟩ = P at *
   conv=>arg 5;whnf
   refine meetc (f := 24) (v := .tuple #[.string (pool.bz t), .bool t.ok]) rfl (by kernel_rfl) (fun β ρ w' hM' => EN w') ?_
   conv=>arg 5;whnf
   refine meetc (f := 25) (v := .tuple #[ft.val, .bool fd]) rfl (by kernel_rfl) (fun β ρ w' hM' => FI w' (hM'.at_ (.head _))) ?_
   conv=>arg 5;whnf
   refine meetPl (f := 9) P [] (by simp) rfl (by kernel_rfl) (fun β ρ w' hM' => L1 w' (hM.later hM'.below) (hM'.at_ (.head _))) (fun x hx _ => ?_)
   conv=>arg 5;whnf
   refine wp_g0 (fun h3 => ?_) (fun h3 => ?_)
   rotate_left
   ·skip
    conv=>arg 5;whnf
    refine meetc (f := 8) (v := .bool true) rfl (by kernel_rfl) (fun β ρ w' hM' => live w' (hM.later hM'.below)) ?_
    conv=>arg 5;whnf
    exact wp_back fun β ρ w' hM' => ⟨rfl, hM'.below⟩
   have h4 : P.r.e = 0 := by have : (!(P.r.e == 0)) = false := h3; simpa using this
   cases fd with
   | true =>
    conv=>arg 5;whnf
    refine meetc (f := 8) (v := .bool true) rfl (by kernel_rfl) (fun β ρ w' hM' => live w' (hM.later hM'.below)) ?_
    conv=>arg 5;whnf
    exact wp_back fun β ρ w' hM' => ⟨rfl, hM'.below⟩
   | false =>
    obtain ⟨P', e0, e1, e2, e3, e4, e5, e6, e7⟩ := hbk rfl h4
    subst e0
    generalize P.dl = dl at *
    generalize P.l = Pl at *
    subst e1
    have e2 : -13 ≤ dl := e2
    have e3 : dl ≤ 13 := e3
    have e4 : Pl.length ≤ l.length + 1 := e4
    have hPd : ∀ x ∈ Pl, x.d.size ≤ maxLen := fun y hy => (e5 y hy).elim (hd y) (fun h => by rw [h]; exact htd)
    have hxa : Sl x.a Pl.length x.c := hx.1
    have L2 := fun w hM hr => look.look C (s, b, Pl) x.a x.c ⟨3, 0, t.n, 0, ByteArray.empty⟩ w hM hxa hr (by show Pl.length ≤ 1000000; omega) hPd (Nat.zero_le _)
    have e6 : lookL C.per C.bp (s, b, Pl) ⟨3, 0, t.n, 0, ByteArray.empty⟩ = _ := e6
    rw [e6] at L2
    have L3 := fun w hM hr => look.look C (s, b, Pl) x.a x.c ⟨1, 0, t.n, 0, ByteArray.empty⟩ w hM hxa hr (by show Pl.length ≤ 1000000; omega) hPd (Nat.zero_le _)
    have e7 : lookL C.per C.bp (s, b, Pl) ⟨1, 0, t.n, 0, ByteArray.empty⟩ = ⟨true, -dl, s, b, l, [(3, t)], ⟨0, t, [], 0⟩⟩ := e7
    rw [e7] at L3
    conv=>arg 5;whnf
    refine meetPl (f := 9) ⟨false, 0, 0, 0, [], [], ⟨0, t, [], 0⟩⟩ [] (by simp) rfl (by kernel_rfl) (fun β ρ w' hM' => L2 w' (hM.later hM'.below) (hM'.at_ (.head _))) (fun y hy _ => ?_)
    conv=>arg 5;whnf
    refine meetPl (f := 9) ⟨true, -dl, s, b, l, [(3, t)], ⟨0, t, [], 0⟩⟩ [] (by simp) rfl (by kernel_rfl) (fun β ρ w' hM' => L3 w' (hM.later hM'.below) (hM'.at_ (show rowF (pt x.a Pl.length) (cellsL Pl) ∈ _ from (by repeat (first | exact List.Mem.head _ | apply List.Mem.tail))))) (fun z hz _ => ?_)
    conv=>arg 5;whnf
    refine wp_prim (.bool true) (fun w => eq_same' _ _ t w) ?_
    conv=>arg 5;whnf
    refine wp_must ⟨by show -9223372036854775808 ≤ -dl; omega, by show -dl ≤ 9223372036854775807; omega⟩ ?_
    conv=>arg 5;whnf
    refine wp_g1 (fun _ => ?_) (fun h => by simp at h)
    conv=>arg 5;whnf
    refine meetc (f := 21) (v := .bool true) rfl (by kernel_rfl) (fun β ρ w' hM' => rsame s b l z.a l.length z.c a c w' hz.1 rfl (hM'.at_ (show rowF (pt z.a l.length) (cellsL l) ∈ _ from (by repeat (first | exact List.Mem.head _ | apply List.Mem.tail)))) hs (hM'.at_ (show rowF (pt a l.length) (cellsL l) ∈ _ from (by repeat (first | exact List.Mem.head _ | apply List.Mem.tail))))) ?_
    have hx1 : Sl x.ea 1 x.ec := hx.2.1
    have hz1 : Sl z.ea 1 z.ec := hz.2.1
    conv=>arg 5;whnf
    refine wp_must ⟨by decide, by show (0 : Int) < ((1 : Nat) : Int); decide, hx1.some (show 0 < 1 by decide)⟩ ?_
    conv=>arg 5;whnf
    refine readH Sxk.env_ok (sz := 8) (k := 0) (o := 1) (vs := cellsX t) rfl rfl (show rowF (pt x.ea 1) (cellsE [(1, t)]) ∈ _ from (by repeat (first | exact List.Mem.head _ | apply List.Mem.tail))) (show 0 < 1 by decide) (hx1.some (show 0 < 1 by decide)) (fun j u hu => by rw [show 0 * 8 + 1 + j = j + 1 by omega]; exact ev_at hu) rfl ?_
    conv=>arg 5;whnf
    refine wp_must ⟨by decide, by show (0 : Int) < ((1 : Nat) : Int); decide, hz1.some (show 0 < 1 by decide)⟩ ?_
    conv=>arg 5;whnf
    refine readH Sxk.env_ok (sz := 8) (k := 0) (o := 1) (vs := cellsX t) rfl rfl (show rowF (pt z.ea 1) (cellsE [(3, t)]) ∈ _ from (by repeat (first | exact List.Mem.head _ | apply List.Mem.tail))) (show 0 < 1 by decide) (hz1.some (show 0 < 1 by decide)) (fun j u hu => by rw [show 0 * 8 + 1 + j = j + 1 by omega]; exact ev_at hu) rfl ?_
    conv=>arg 5;whnf
    refine wp_prim (.bool true) (fun w => eq_same' _ _ t w) ?_
    conv=>arg 5;whnf
    refine meetc (f := 8) (v := .bool true) rfl (by kernel_rfl) (fun β ρ w' hM' => live w' (hM.later hM'.below)) ?_
    conv=>arg 5;whnf
    exact wp_back fun β ρ w' hM' => ⟨rfl, hM'.below⟩
end Go.Proofs.YtofpmnkkimgkfaaDoor.lookBack
namespace Go.Proofs.YtofpmnkkimgkfaaDoor.lookBack
open Go.ChangeShapes Go.WideShapes Go.ChangeAt Go.RowKit
open Go.ChangeMaps (open_string shut_string)
theorem own : ownKnob Tryd.prog.godebug = none := by kernel_rfl
theorem laidOut : laidOutB Tryd.prog = true := by kernel_rfl
noncomputable def laidWorld (os : Os) : World :=
 let w0 := World.holding Tryd.prog os ⟨#[], #[], []⟩
 { w0 with heap := w0.heap.modify 0 fun
   | .cells _ t frozen => .cells #[.int .i64 255, .int .i64 4294967295, .int .i64 1099511627776, .int .i64 1099511627776, .int .i64 1073741824] t frozen
   | o => o }
theorem laid_met (os : Os) (args : Array Value) : laidMet Tryd.prog Rows.lookBackRow.laid ((laidWorld os).forCall (fun _ _ => 0) ⟨#[], args, []⟩).memory :=
 laidMet_of_run (ps := [.cell 0 0, .cell 0 1, .cell 0 2, .cell 0 3, .cell 0 4]) 8 (by kernel_rfl) (by kernel_rfl) (by kernel_rfl)
theorem lifted (os : Os) (started : os.Started) (H : Type) (enc : TypeId × Value → H) :
  ReturnsInHanded {} Tryd.checked os 5 .any (fun w args => (Rows.lookBackSpec.pre enc Tryd.prog Tryd.f5 Rows.lookBackRow.domain false w args ∧ laidMet Tryd.prog Rows.lookBackRow.laid w) ∧ sizedMet enc Tryd.prog Tryd.f5 (OpenSpec.ofChange Rows.lookBackSpec) false w args) (Rows.lookBackSpec.post enc Tryd.prog Tryd.f5 false true false false) := by
 refine returnsInHanded_of_change_and (C := Tryd.checked) (X := fun w _ => laidMet Tryd.prog Rows.lookBackRow.laid w) (fun _ _ _ hh h => h.of_heap hh) own started (by kernel_rfl) Tryd.func5
  (ChangeSpec.witness_at (enc := enc) (C := Tryd.checked) (os := os) (X := fun w _ => laidMet Tryd.prog Rows.lookBackRow.laid w) false (laidWorld os) #[.agg #[.int .i64 0, .int .i64 0, .int .i64 0, .int .i64 0, .int .i64 0, .int .i64 0, .int .i64 0, .int .i64 0], .agg #[.int .i64 0, .int .i64 0, .slice none 0 0], .agg #[.int .i64 0, .int .i64 0, .int .i64 0, .int .i64 0, .int .i64 0, .string ByteArray.empty]] 8 rfl (by kernel_rfl) (by kernel_rfl) (by kernel_rfl) (by kernel_rfl) (by kernel_rfl) (laid_met os _)) ?_
 intro W base args ds gs before hval0 hW hcnd _ hL _
 have hval : ∀ (j : Nat) t v, Tryd.f5.params[j]? = some t → args[j]? = some v → Value.okWide Tryd.prog W .any base t v := hval0
 have hW' := hW
 obtain ⟨p, q, hA0, hV, rfl, hfz, hnd⟩ := hW
 have hA : DataW.TrodAll enc Tryd.prog W 0 (fun _ => true) true Tryd.f5.params.toList args.toList ds p := hA0
 rw [Tryd.params5] at hA hval
 obtain ⟨v0, vs0, d0, ds0, p0, q0, hargs, rfl, rfl, h0, r0⟩ := trodAll_cons hA
 obtain ⟨v1, vs1, d1, ds1, p1, q1, rfl, rfl, rfl, h1, r1⟩ := trodAll_cons r0
 obtain ⟨v2, vs2, d2, ds2, p2, q2, rfl, rfl, rfl, h2, r2⟩ := trodAll_cons r1
 obtain ⟨rfl, rfl, rfl⟩ := trodAll_nil r2
 obtain rfl : args = #[v0, v1, v2] := by cases args; simp_all
 obtain ⟨rfl, rfl⟩ := trodVars_none hV
 have k0 := h0
 have lt0 : ∀ x ∈ p0, x.block < W.heap.size := by obtain ⟨m, hm⟩ := k0; exact DataW.trod_lt m _ _ _ hm
 obtain ⟨C0, rfl, f0⟩ := pool.open_cfg (hval 0 23 v0 rfl rfl) h0
 have k1 := h1
 have lt1 : ∀ x ∈ p1, x.block < W.heap.size := by obtain ⟨m, hm⟩ := k1; exact DataW.trod_lt m _ _ _ hm
 obtain ⟨s1, b1, a1, n1, c1, l1, rfl, f1⟩ := queue.open_acc (hval 1 26 v1 rfl rfl) h1
 have k2 := h2
 have lt2 : ∀ x ∈ p2, x.block < W.heap.size := by obtain ⟨m, hm⟩ := k2; exact DataW.trod_lt m _ _ _ hm
 obtain ⟨x2, rfl, f2⟩ := queue.open_tx (hval 2 34 v2 rfl rfl) h2
 clear hA0 hval0
 have hM : txn.Most W := txn.most_of_laid hL
 refine (walk C0 s1 b1 a1 n1 c1 l1 x2 W hM f0 f1 f2).mono fun e W' ⟨he, bel⟩ => ?_
 subst he
 exact ⟨_, rfl, _, _, _, [], _, [], hW', trodAll_mk1 (shut_bool Tryd.underlying4 _), (trodAll_cons_mk (Below.trod laidOut (by kernel_rfl) (of_decide_eq_true (by kernel_rfl)) k0 bel lt0) (trodAll_cons_mk (Below.trod laidOut (by kernel_rfl) (of_decide_eq_true (by kernel_rfl)) k1 bel lt1) (trodAll_cons_mk (Below.trod laidOut (by kernel_rfl) (of_decide_eq_true (by kernel_rfl)) k2 bel lt2) trodAll_mk0))), rfl, bel.frame _, fun h => by cases h⟩
theorem over : Rows.LookBackSaid :=
 OpenClaim.holds_of_wide 5 Tryd.f5 rfl rfl rfl rfl rfl rfl rfl ⟨rfl, rfl, rfl, rfl, rfl⟩ rfl rfl rfl rfl rfl (by kernel_rfl) Tryd.func5 (by kernel_rfl)
  (of_decide_eq_true (by kernel_rfl)) (by unfold Func.isWrapper; first | (rw [if_pos (by decide +kernel)]; kernel_rfl) | (rw [if_neg (by decide +kernel)]; exact ⟨rfl, rfl⟩))
  (fun os started H enc _ => lifted os started H enc)
theorem proved : Rows.LookBackCardSaid :=
 Claim7.holds_tied_plain_at .later [] [.data] true (true, "c691626c4052b3d883dc81980693dcab11890168e18de7be2f2f2ad56109042f") false
  over (fun _ h => by cases h) (by kernel_rfl) (fun _ h => by cases h) lookBack_row_tie rfl ⟨rfl, rfl⟩ (by kernel_rfl) rfl
  (fun f fn hf hfn => by
   obtain rfl : f = 5 := (Option.some.inj ((show Tryd.prog.funcNamed "hopper/hopperlaw15.LookBack" = some 5 by kernel_rfl).symm.trans hf)).symm
   obtain rfl : fn = Tryd.f5 := (Option.some.inj (Tryd.func5.symm.trans hfn)).symm
   exact ⟨by kernel_rfl, fun j t ht => by
    rw [Tryd.params5] at ht
    match j, ht with
    | 0, ht =>
     obtain rfl : t = 23 := by simpa using ht.symm
     exact (show Tryd.prog.wantsStandIn 23 = false by kernel_rfl)
    | 1, ht =>
     obtain rfl : t = 26 := by simpa using ht.symm
     exact (show Tryd.prog.wantsStandIn 26 = false by kernel_rfl)
    | 2, ht =>
     obtain rfl : t = 34 := by simpa using ht.symm
     exact (show Tryd.prog.wantsStandIn 34 = false by kernel_rfl)
    | j + 3, ht => simp at ht⟩)
  (by kernel_rfl)
#print axioms proved
end Go.Proofs.YtofpmnkkimgkfaaDoor.lookBack
