/- hopper/hopperlaw13.PoolEvents answers true at every input, and every argument reads behind the call as it read before; hopper/txn.most holds what the program's text lays there: the card ties it. No other condition. -/
import Derived.Test.YtofpmnkkimgkfaaGreatDoorRows
import Derived.Test.YtofpmnkkimgkfaaGreatDoorKTxn
import Derived.OpenShut
import Derived.ChangeOld
import Derived.LaidLaws
import Derived.Test.YtofpmnkkimgkfaaGreatDoorKPoEv
import Derived.Test.YtofpmnkkimgkfaaGreatDoorKPoAll
import Derived.Test.YtofpmnkkimgkfaaGreatDoorCards
import Derived.Test.YtofpmnkkimgkfaaGreatDoorTie
import Derived.WalkKit
import Derived.ProofKit
import Derived.ShutString
import Derived.Below
import Derived.Handed
import Derived.SevenTiedAt
set_option linter.all false
set_option maxHeartbeats 4000000
set_option maxRecDepth 100000
namespace Go.Proofs.YtofpmnkkimgkfaaGreatDoor.txn
open Go.RowKit Go.ChangeShapes Go.WideShapes
theorem most_of_laid {W : World} (h : laidMet Tryz.prog [("hopper/txn.most", Rows.laid_hopper_txn_most)] W) : Most W := by
 obtain ⟨ps, ⟨g, t, cs, fuel, p, q, hg, ht, hvar, hd, _, _⟩, _⟩ := h
 obtain rfl := Option.some.inj ((show Tryz.prog.globalNamed "hopper/txn.most" = some 0 by kernel_rfl).symm.trans hg)
 obtain rfl := Option.some.inj ((show (Tryz.prog.globals[0]?).map (·.type) = some 190 by kernel_rfl).symm.trans ht)
 obtain ⟨xs, m, _, hx, hlen, hn, hi⟩ := DataW.trod_array Tryz.underlying190 hd
 have h5 : cs.toList.length = 5 := hlen.trans (by kernel_rfl)
 obtain ⟨l⟩ := cs
 match l, h5 with
 | [c0, c1, c2, c3, c4], _ =>
  match xs, hn with
  | [y0, y1, y2, y3, y4], _ =>
   have k3 : Tryz.prog.cellsOf 3 = 1 := by kernel_rfl
   have g0 := hi 0 (by omega)
   have g1 := hi 1 (by omega)
   have g2 := hi 2 (by omega)
   have g3 := hi 3 (by omega)
   have g4 := hi 4 (by omega)
   simp [k3] at g0 g1 g2 g3 g4
   obtain ⟨a0, e0, f0, _⟩ := DataW.trod_int Tryz.underlying3 g0
   obtain ⟨a1, e1, f1, _⟩ := DataW.trod_int Tryz.underlying3 g1
   obtain ⟨a2, e2, f2, _⟩ := DataW.trod_int Tryz.underlying3 g2
   obtain ⟨a3, e3, f3, _⟩ := DataW.trod_int Tryz.underlying3 g3
   obtain ⟨a4, e4, f4, _⟩ := DataW.trod_int Tryz.underlying3 g4
   simp at e0 e1 e2 e3 e4
   subst e0 e1 e2 e3 e4 f0 f1 f2 f3 f4
   simp [Rows.laid_hopper_txn_most] at hx
   obtain ⟨⟨r0, r1, r2, r3, r4⟩, _⟩ := hx
   subst r0 r1 r2 r3 r4
   have z0 := World.var?_cell hg hvar 0
   have z1 := World.var?_cell hg hvar 1
   have z2 := World.var?_cell hg hvar 2
   have z3 := World.var?_cell hg hvar 3
   have z4 := World.var?_cell hg hvar 4
   have hz : 0 < W.heap.size := by
    rcases Nat.eq_zero_or_pos W.heap.size with h0 | h0
    ·exfalso
     simp [World.cell?, Array.getElem?_eq_none (show W.heap.size ≤ 0 by omega)] at z0
    ·exact h0
   exact ⟨by simpa using z0, by simpa using z1, by simpa using z2, by simpa using z3, by simpa using z4, hz⟩
end Go.Proofs.YtofpmnkkimgkfaaGreatDoor.txn
namespace Go.Proofs.YtofpmnkkimgkfaaGreatDoor.poolEvents
open Go.RowKit Sx txn queue greedy shard pool
theorem evc_at {κ : Int} {t : Tx} {j : Nat} {u : Value} (h : (cellsX t)[j]? = some u) : (evC (κ, t))[j + 1]? = some u := by
 match j, h with
 | 0, h => exact h
 | 1, h => exact h
 | 2, h => exact h
 | 3, h => exact h
 | 4, h => exact h
 | 5, h => exact h
 | j + 6, h => simp [cellsX] at h
section
variable {E : Sx.Env} {P : Program} {W : World} {G : Option Nat} {Q : Ending → World → Prop} {ds : List Deferred}
theorem readH (hE : Sx.Env.Ok E P) {ty : TypeId} {ad : Option Addr} {xs vs : List Value} {k sz o q n : Nat} {m : M} {K : Value → Tree} {a : Addr} (hty : lk E.agg ty = some (some q)) (hl : vs.length = q) (hm : rowF (pt ad n) xs ∈ m.facts) (hk : k < n) (ha : ad.isSome = true)
  (hx : ∀ (j : Nat) (u : Value), vs[j]? = some u → xs[k * sz + o + j]? = some u) (haddr : a = ((ad.getD ⟨0, 0, none⟩).add (k * sz)).add o) (h : (K (.agg vs.toArray)).wpD P W G Q ds) : (Tree.load ty a m K).wpD P W G Q ds := by
 rw [pt_pos hk] at hm
 refine ⟨.agg vs.toArray, fun β ρ w hM => ?_, h⟩
 cases ad with
 | none => cases ha
 | some ad =>
  have := hE.aggN ty q hty a w vs hl (fun j u hu => by
   have hc := (hM.at_ hm).cell (hx j u hu)
   rw [haddr]
   simp only [Option.getD_some]
   obtain ⟨b, o', sp⟩ := ad
   unfold Addr.add at hc ⊢
   by_cases h1 : k * sz = 0 <;> by_cases h2 : o = 0 <;> by_cases h3 : j = 0 <;> simp_all [Nat.add_assoc])
  rw [this]
end
theorem walk (C : Cf) (a : Option Addr) (n c : Nat) (l : List Oq) (w : World) (hM : Most w) (hC : True) (hI : Sl a n c ∧ n = l.length ∧ At w (pt a n) (cellsO l) ∧ ∀ O ∈ l, O.fits) :
  Calls Tryz.prog 6 (List.toArray [C.val, .slice a n c]) w fun e w' => e = .returned (.bool true) ∧ Below w.heap.size w w' := by
 obtain ⟨hs, hn, hrow, hfit⟩ := hI
 refine calls_of_exec Sxs.env_ok.keeps.soon_ Tryz.func6 rfl [(3, (line [0, 1, 2, 3, 4, 5, 6, 7, 8, 9, 10], [])), (9, (.one 0 (.one 1 (.one 2 (.one 3 (.one 4 (.one 5 (.one 6 (.fork 7 (.one 8 (.one 9 (.done))) 8 (.one 7 (.one 9 (.done)))))))))), [])), (10, (.one 0 (.one 1 (.one 2 (.one 3 (.one 4 (.one 5 (.one 6 (.fork 7 (.one 8 (.one 9 (.one 10 (.one 11 (.one 12 (.one 13 (.done))))))) 11 (.one 7 (.one 8 (.one 9 (.one 10 (.one 12 (.one 13 (.done)))))))))))))), [])), (11, (line [0, 1, 2, 3, 4, 5, 6, 7, 8, 9, 10, 11, 12, 13, 14, 15, 16, 17, 18, 19, 20, 21, 22, 23, 24, 25, 26, 27, 28, 29, 30, 31, 32, 33, 34, 35, 36, 37, 38, 39, 40], [])), (14, (lineT [0, 1, 2, 3, 4, 5, 6, 7] [8], [])), (15, (lineT [0, 1, 2, 3, 4, 5, 6] [7], [])), (21, (line [0, 1, 2, 3, 4, 5, 6, 7, 8], []))] (schedQ_ok _ _ (by kernel_rfl)) [rowF (pt a n) (cellsO l), rowF none []] (fun φ hφ g hg => by simp only [List.mem_cons, List.not_mem_nil, or_false] at hφ; rcases hφ with rfl | rfl; exact hrow g hg; cases hg) ?_
 have FW := fun w' hr => few_ l a n c 20 w' hs hn hr
 generalize hfb : (fewO l && decide ((n : Int) ≤ 20)) = fb at *
 conv=>arg 5;whnf
 refine meetc (f := 27) (v := .bool fb) rfl (by kernel_rfl) (fun β ρ w' hM' => FW w' (hM'.at_ (.head _))) ?_
 cases fb with
 | false =>
  conv=>arg 5;whnf
  refine meetc (f := 15) (v := .bool true) rfl (by kernel_rfl) (fun β ρ w' hM' => live w' (hM.later hM'.below)) ?_
  conv=>arg 5;whnf
  exact wp_back fun β ρ w' hM' => ⟨rfl, hM'.below⟩
 | true =>
  simp only [Bool.and_eq_true, decide_eq_true_eq] at hfb
  have hn20 : n ≤ 20 := by omega
  have hl : ∀ O ∈ l, O.d.size ≤ 1000000 ∧ -9223372036854775808 ≤ O.g ∧ O.g ≤ 9223372036854775807 := fun O hO => by
   have h1 := hfb.1
   unfold fewO at h1
   have h2 := of_decide_eq_true (List.all_eq_true.1 h1 O hO)
   have h3 := (hfit O hO).2.2.2.1
   unfold Fits at h3
   omega
  have R1 := fun p cp w hM (hs : Sl p n cp) hr => run C l p n cp w hM hs hn hr hl hn20
  obtain ⟨r1, r2, r3, r4⟩ := run_inv C l
  obtain ⟨t1, t2⟩ := told_run C l
  generalize runP C l = R at *
  obtain ⟨RP, RQ, RE⟩ := R
  have r1 : RP.length ≤ l.length := r1
  have r2 : RP = [] ∨ pckB C RP = true := r2
  have r3 : RE.length ≤ 16 * l.length := r3
  have t1 : allOk [] RE := t1
  have t2 : tellA [] RE = zb RP := t2
  have hord : pool.Ord RP := by
   rcases r2 with rfl | h
   ·exact List.Pairwise.nil
   ·exact (pck_iff.1 h).2.2.1
  conv=>arg 5;whnf
  refine meet1F (f := 29) (n := n) (v := fun a1 c1 => .slice a1 n c1) (xs := cellsO l) rfl (by kernel_rfl) (fun β ρ w' hM' => ops_ l a n c w' hs hn (hM'.at_ (.head _)) (by omega)) (fun p c_p h_p f_p => ?_)
  conv=>arg 5;whnf
  refine meetRn (f := 28) (RP, RQ, RE) rfl (by kernel_rfl) (fun β ρ w' hM' => R1 p c_p w' (hM.later hM'.below) h_p (hM'.at_ (.head _))) (fun x hx _ => ?_)
  obtain ⟨x1, x2, x3, x4, x5, x6, x7⟩ := hx
  have x1 : x.L.map acP = RP := x1
  have x7 : Sl x.ea RE.length x.ec := x7
  have xl : x.L.length ≤ 20 := by have h9 := congrArg List.length x1; rw [List.length_map] at h9; omega
  conv=>arg 5;whnf
  refine loop_ruleE Sxs.env_ok.keeps.soon_ [(3, (line [0, 1, 2, 3, 4, 5, 6, 7, 8, 9, 10], [])), (9, (.one 0 (.one 1 (.one 2 (.one 3 (.one 4 (.one 5 (.one 6 (.fork 7 (.one 8 (.one 9 (.done))) 8 (.one 7 (.one 9 (.done)))))))))), [])), (10, (.one 0 (.one 1 (.one 2 (.one 3 (.one 4 (.one 5 (.one 6 (.fork 7 (.one 8 (.one 9 (.one 10 (.one 11 (.one 12 (.one 13 (.done))))))) 11 (.one 7 (.one 8 (.one 9 (.one 10 (.one 12 (.one 13 (.done)))))))))))))), [])), (11, (line [0, 1, 2, 3, 4, 5, 6, 7, 8, 9, 10, 11, 12, 13, 14, 15, 16, 17, 18, 19, 20, 21, 22, 23, 24, 25, 26, 27, 28, 29, 30, 31, 32, 33, 34, 35, 36, 37, 38, 39, 40], [])), (14, (lineT [0, 1, 2, 3, 4, 5, 6, 7] [8], [])), (15, (lineT [0, 1, 2, 3, 4, 5, 6] [7], [])), (21, (line [0, 1, 2, 3, 4, 5, 6, 7, 8], []))] (schedQ_ok _ _ (by kernel_rfl)) [1, 1, 1] (fun i : Nat × Option Addr × Nat × List Ac => i.1 ≤ RE.length ∧ i.2.2.2.map acP = tellA [] (RE.take i.1) ∧ i.2.2.2.length ≤ i.1 ∧ Sl i.2.1 i.2.2.2.length i.2.2.1 ∧ ∀ z ∈ i.2.2.2, z.fit ∧ z.l.length ≤ i.1 ∧ z.b = 0) (fun i => (⟨[some ([.v (.int .i64 C.sh), .v (.int .i64 C.so), .v (.int .i64 C.hd), .v (.int .i64 C.per), .v (.int .i64 C.bp), .v (.int .i64 C.fd), .v (.int .i64 C.wk), .v (.int .i64 C.rm)], 23)], [], acsF i.2.1 i.2.2.2.length i.2.2.2 ++ (x.fs (RP, RQ, RE) ++ [rowF (pt p n) (cellsO l), rowF (pt a n) (cellsO l), rowF none []])⟩, [.any, .any, .p 0 0, .any, .v (.bool false), .v (.slice x.a x.L.length x.c), .any, .v (.slice x.ea RE.length x.ec), .v (.slice i.2.1 i.2.2.2.length i.2.2.1), .v (.int .i64 i.1), .any, .any, .any, .any, .any, .any, .any, .any, .any, .any, .any, .any, .any, .any, .any, .any, .any, .any, .any, .any, .any, .any, .any, .any, .any, .any, .any, .any, .any, .any, .any, .any, .any, .any, .any, .any, .any, .any, .any, .any, .any, .any, .any, .any, .any, .any, .any, .any, .any, .any, .any, .any, .any, .any, .any, .any, .any, .any, .any, .any, .any, .any, .any, .any, .any, .any, .any, .any, .any, .any, .any, .any, .any, .any, .any, .any, .any, .any, .any, .any, .any, .any, .any, .any, .any, .any, .any, .any, .any, .any, .any, .any, .any, .any, .any, .any, .any, .any, .any, .any, .any, .any, .any, .any, .any, .any, .any, .any, .any, .any, .any, .any, .any, .any, .any, .any, .any, .any, .any, .any, .any, .any, .any, .any, .any, .any, .any, .any, .any, .any, .any, .any, .any, .any, .any, .any, .any, .any, .any, .any, .any, .any])) (fun i => RE.length - i.1) (0, none, 0, []) ⟨Nat.zero_le _, rfl, Nat.le_refl _, sl0, fun z hz => by cases hz⟩ ⟨by repeat' first | exact trivial | refine ⟨.inl rfl, ?_⟩ | refine ⟨.inr rfl, ?_⟩, ⟨by repeat' first | exact trivial | refine ⟨.inl rfl, ?_⟩ | refine ⟨.inr rfl, ?_⟩, by repeat' first | exact trivial | refine ⟨.inl rfl, ?_⟩ | refine ⟨.inr rfl, ?_⟩, fun φ hφ => (List.mem_cons.1 hφ).elim (fun h => by subst h; exact (show rowF none [] ∈ x.fs (RP, RQ, RE) ++ [rowF (pt p n) (cellsO l), rowF (pt a n) (cellsO l), rowF none []] from List.mem_append_right _ (.tail _ (.tail _ (.head _))))) (fun h => h)⟩, rfl⟩ ?_
  rintro ⟨k, b1, c1, T⟩ ⟨i1, i2, i3, i4, i5⟩
  have i1 : k ≤ RE.length := i1
  have i2 : T.map acP = tellA [] (RE.take k) := i2
  have i3 : T.length ≤ k := i3
  have i4 : Sl b1 T.length c1 := i4
  have i5 : ∀ z ∈ T, z.fit ∧ z.l.length ≤ k ∧ z.b = 0 := i5
  conv=>arg 5;whnf
  refine wp_br (fun h1 => ?_) (fun h1 => ?_)
  ·have hlt : k < RE.length := by have h3 := of_decide_eq_true (show decide ((k : Int) < (RE.length : Int)) = true from h1); omega
   obtain ⟨e, he⟩ : ∃ e, RE[k]? = some e := ⟨_, List.getElem?_eq_getElem hlt⟩
   obtain ⟨κ, t⟩ := e
   have hte : tellA [] (RE.take (k + 1)) = tevS (T.map acP) (κ, t) := by rw [List.take_add_one, he, i2]; exact tellA_app _ _ _
   obtain ⟨o1, o2, o3, o4, o5⟩ := allOk_at t1 he
   rw [← i2] at o3 o4
   have o1 : 1 ≤ κ := o1
   have o2 : κ ≤ 3 := o2
   have o3 : (findV (getP (T.map acP) t.s).2.2 t.n).2 = decide (κ ≠ 1) := o3
   have o4 : κ = 3 → findV (getP (T.map acP) t.s).2.2 t.n = (t, true) := o4
   have o5 : t.ok = true := o5
   have htd : t.d.size ≤ maxLen := by unfold Tx.ok at o5; have := of_decide_eq_true o5; unfold maxLen; omega
   have GT := fun w hA => rget11 0 T b1 T.length c1 t.s w hA (by omega)
   obtain ⟨hp1, hp2⟩ := getP_fit (fun z hz => (i5 z hz).1) t.s
   have hpk : (getP (T.map acP) t.s).2.2.length ≤ k ∧ (getP (T.map acP) t.s).2.1 = 0 := by
    rcases getP_or (T.map acP) t.s with ⟨g1, _⟩ | ⟨g1, _⟩
    ·obtain ⟨z, hz, e9⟩ := List.mem_map.1 g1
     rw [← e9]
     exact (i5 z hz).2
    ·rw [g1]; exact ⟨Nat.zero_le _, rfl⟩
   have hfT : ∀ φ ∈ acsF b1 T.length T, φ ∈ acsF b1 T.length T ++ (x.fs (RP, RQ, RE) ++ [rowF (pt p n) (cellsO l), rowF (pt a n) (cellsO l), rowF none []]) := fun φ h => List.mem_append_left _ h
   have hte2 : tevS (T.map acP) (κ, t) = setP (T.map acP) ((getP (T.map acP) t.s).1, (getP (T.map acP) t.s).2.1, if κ = 3 then dropV t.n (getP (T.map acP) t.s).2.2 else putV t (getP (T.map acP) t.s).2.2) := rfl
   rw [hte2] at hte
   clear hte2
   generalize getP (T.map acP) t.s = q at *
   conv=>arg 5;whnf
   refine wp_must ⟨by omega, by show (k : Int) < (RE.length : Int); omega, x7.some hlt⟩ ?_
   conv=>arg 5;whnf
   refine readF (sz := 8) (k := k) (f := 1) (.int .i64 t.s) rfl (show rowF (pt x.ea RE.length) (cellsE RE) ∈ acsF b1 T.length T ++ (x.fs (RP, RQ, RE) ++ [rowF (pt p n) (cellsO l), rowF (pt a n) (cellsO l), rowF none []]) from List.mem_append_right _ (List.mem_append_left _ (.tail _ (.head _)))) hlt (x7.some hlt) (cellsE_at he 1 _ rfl) rfl ?_
   have FI := fun u cu w (hu : Sl u q.2.2.length cu) hr => rfind q.1 q.2.1 q.2.2 u q.2.2.length cu t.n w hu rfl hr
   conv=>arg 5;whnf
   refine wp_both ?_ ?_
   all_goals
    conv=>arg 5;whnf
    refine meetAc (f := 33) q (acsF b1 T.length T) hfT rfl (by kernel_rfl) (fun β ρ w' hM' => GT w' (acs_of hM' i4 rfl (fun z hz => (i5 z hz).1) hfT)) (fun u c_u h_u f_u => ?_)
    conv=>arg 5;whnf
    refine wp_must ⟨by omega, by show (k : Int) < (RE.length : Int); omega, x7.some hlt⟩ ?_
    conv=>arg 5;whnf
    refine readF (sz := 8) (k := k) (f := 2) (.int .i64 t.n) rfl (show rowF (pt x.ea RE.length) (cellsE RE) ∈ rowF (pt u q.2.2.length) (cellsL q.2.2) :: (acsF b1 T.length T ++ (x.fs (RP, RQ, RE) ++ [rowF (pt p n) (cellsO l), rowF (pt a n) (cellsO l), rowF none []])) from .tail _ (List.mem_append_right _ (List.mem_append_left _ (.tail _ (.head _))))) hlt (x7.some hlt) (cellsE_at he 2 _ rfl) rfl ?_
    conv=>arg 5;whnf
    refine wp_both ?_ ?_
    all_goals
     generalize hfq : findV q.2.2 t.n = fq at *
     obtain ⟨ft, fd⟩ := fq
     conv=>arg 5;whnf
     refine meetc (f := 34) (v := .tuple #[ft.val, .bool fd]) rfl (by kernel_rfl) (fun β ρ w' hM' => FI u c_u w' h_u (hM'.at_ (.head _))) ?_
     conv=>arg 5;whnf
     refine wp_must ⟨by omega, by show (k : Int) < (RE.length : Int); omega, x7.some hlt⟩ ?_
     conv=>arg 5;whnf
     refine readF (sz := 8) (k := k) (f := 0) (.int .i64 κ) rfl (show rowF (pt x.ea RE.length) (cellsE RE) ∈ rowF (pt u q.2.2.length) (cellsL q.2.2) :: (acsF b1 T.length T ++ (x.fs (RP, RQ, RE) ++ [rowF (pt p n) (cellsO l), rowF (pt a n) (cellsO l), rowF none []])) from .tail _ (List.mem_append_right _ (List.mem_append_left _ (.tail _ (.head _))))) hlt (x7.some hlt) (cellsE_at he 0 _ rfl) rfl ?_
     have o3 : fd = decide (κ ≠ 1) := o3
     obtain rfl | rfl | rfl : κ = 1 ∨ κ = 2 ∨ κ = 3 := by omega
     ·obtain rfl : fd = false := o3
      have hpb := putV_bd t q.2.2
      rw [if_neg (by decide)] at hte
      have PU := fun w hr => queue.rput q.1 q.2.1 q.2.2 u q.2.2.length c_u t w h_u rfl hr (by omega)
      generalize putV t q.2.2 = nl at *
      have hnd : ∀ z ∈ nl, z.d.size ≤ maxLen := fun z hz => (hpb.2 z hz).elim (hp2 z) fun h => by rw [h]; exact htd
      conv=>arg 5;whnf
      refine wp_prim (.bool false) (fun w => by kernel_rfl) ?_
      conv=>arg 5;whnf
      refine wp_must ⟨by omega, by show (k : Int) < (RE.length : Int); omega, x7.some hlt⟩ ?_
      conv=>arg 5;whnf
      refine readF (sz := 8) (k := k) (f := 0) (.int .i64 1) rfl (show rowF (pt x.ea RE.length) (cellsE RE) ∈ rowF (pt u q.2.2.length) (cellsL q.2.2) :: (acsF b1 T.length T ++ (x.fs (RP, RQ, RE) ++ [rowF (pt p n) (cellsO l), rowF (pt a n) (cellsO l), rowF none []])) from .tail _ (List.mem_append_right _ (List.mem_append_left _ (.tail _ (.head _))))) hlt (x7.some hlt) (cellsE_at he 0 _ rfl) rfl ?_
      conv=>arg 5;whnf
      refine wp_must ⟨by omega, by show (k : Int) < (RE.length : Int); omega, x7.some hlt⟩ ?_
      conv=>arg 5;whnf
      refine readF (sz := 8) (k := k) (f := 0) (.int .i64 1) rfl (show rowF (pt x.ea RE.length) (cellsE RE) ∈ rowF (pt u q.2.2.length) (cellsL q.2.2) :: (acsF b1 T.length T ++ (x.fs (RP, RQ, RE) ++ [rowF (pt p n) (cellsO l), rowF (pt a n) (cellsO l), rowF none []])) from .tail _ (List.mem_append_right _ (List.mem_append_left _ (.tail _ (.head _))))) hlt (x7.some hlt) (cellsE_at he 0 _ rfl) rfl ?_
      conv=>arg 5;whnf
      refine wp_must ⟨by omega, by show (k : Int) < (RE.length : Int); omega, x7.some hlt⟩ ?_
      conv=>arg 5;whnf
      refine readF (sz := 8) (k := k) (f := 0) (.int .i64 1) rfl (show rowF (pt x.ea RE.length) (cellsE RE) ∈ rowF (pt u q.2.2.length) (cellsL q.2.2) :: (acsF b1 T.length T ++ (x.fs (RP, RQ, RE) ++ [rowF (pt p n) (cellsO l), rowF (pt a n) (cellsO l), rowF none []])) from .tail _ (List.mem_append_right _ (List.mem_append_left _ (.tail _ (.head _))))) hlt (x7.some hlt) (cellsE_at he 0 _ rfl) rfl ?_
      conv=>arg 5;whnf
      refine wp_must ⟨by omega, by show (k : Int) < (RE.length : Int); omega, x7.some hlt⟩ ?_
      conv=>arg 5;whnf
      refine readF (sz := 8) (k := k) (f := 0) (.int .i64 1) rfl (show rowF (pt x.ea RE.length) (cellsE RE) ∈ rowF (pt u q.2.2.length) (cellsL q.2.2) :: (acsF b1 T.length T ++ (x.fs (RP, RQ, RE) ++ [rowF (pt p n) (cellsO l), rowF (pt a n) (cellsO l), rowF none []])) from .tail _ (List.mem_append_right _ (List.mem_append_left _ (.tail _ (.head _))))) hlt (x7.some hlt) (cellsE_at he 0 _ rfl) rfl ?_
      conv=>arg 5;whnf
      refine wp_must ⟨by omega, by show (k : Int) < (RE.length : Int); omega, x7.some hlt⟩ ?_
      conv=>arg 5;whnf
      refine readH Sxs.env_ok (sz := 8) (k := k) (o := 1) (vs := cellsX t) rfl rfl (show rowF (pt x.ea RE.length) (cellsE RE) ∈ rowF (pt u q.2.2.length) (cellsL q.2.2) :: (acsF b1 T.length T ++ (x.fs (RP, RQ, RE) ++ [rowF (pt p n) (cellsO l), rowF (pt a n) (cellsO l), rowF none []])) from .tail _ (List.mem_append_right _ (List.mem_append_left _ (.tail _ (.head _))))) hlt (x7.some hlt) (fun j u hu => by have h9 := cellsE_at he (j + 1) u (evc_at hu); rw [show k * 8 + 1 + j = k * 8 + (j + 1) by omega]; exact h9) rfl ?_
      conv=>arg 5;whnf
      refine meet1F (f := 36) (n := nl.length) (v := fun a1 c1 => acc q.1 q.2.1 a1 nl.length c1) (xs := cellsL nl) rfl (by kernel_rfl) (fun β ρ w' hM' => PU w' (hM'.at_ (.head _))) (fun y c_y h_y f_y => ?_)
      have hxf : (⟨q.1, q.2.1, y, nl.length, c_y, nl⟩ : Ac).fit := ⟨h_y, rfl, by show nl.length ≤ 1000000; omega, hnd⟩
      have ST := fun w hA => rset11 T (⟨q.1, q.2.1, y, nl.length, c_y, nl⟩ : Ac) 0 b1 T.length c1 w hA (by omega) (by show 0 ≤ q.2.1; omega)
      have hSm := rsV_acs (⟨q.1, q.2.1, y, nl.length, c_y, nl⟩ : Ac) T rfl
      have hSl : (rsV keyA (⟨q.1, q.2.1, y, nl.length, c_y, nl⟩ : Ac) (emptyV q.2.1 nl.length) T).length ≤ T.length + 1 := by
       have h9 := pool.setP_le (T.map acP) (acP (⟨q.1, q.2.1, y, nl.length, c_y, nl⟩ : Ac))
       have h8 := congrArg List.length hSm
       rw [List.length_map] at h8 h9
       exact Nat.le_trans (Nat.le_of_eq h8) h9
      have hSx : ∀ z ∈ rsV keyA (⟨q.1, q.2.1, y, nl.length, c_y, nl⟩ : Ac) (emptyV q.2.1 nl.length) T, z ∈ T ∨ z = (⟨q.1, q.2.1, y, nl.length, c_y, nl⟩ : Ac) := fun z hz => rsV_mem hz
      generalize rsV keyA (⟨q.1, q.2.1, y, nl.length, c_y, nl⟩ : Ac) (emptyV q.2.1 nl.length) T = S at *
      conv=>arg 5;whnf
      refine meet1F (f := 37) (n := S.length) (v := fun a1 c1 => shV a1 S.length c1 (nextV 0)) (xs := cellsA S) rfl (by kernel_rfl) (fun β ρ w' hM' => ST w' (by exact acs_of hM' i4 rfl (fun z hz => (i5 z hz).1) (fun φ h => (show φ ∈ rowF (pt y nl.length) (cellsL nl) :: (rowF (pt u q.2.2.length) (cellsL q.2.2) :: (acsF b1 T.length T ++ (x.fs (RP, RQ, RE) ++ [rowF (pt p n) (cellsO l), rowF (pt a n) (cellsO l), rowF none []]))) from .tail _ (.tail _ (hfT φ h)))))) (fun v c_v h_v f_v => ?_)
      conv=>arg 5;whnf
      refine wp_prim (.slice v S.length c_v) (fun w => by kernel_rfl) ?_
      conv=>arg 5;whnf
      refine wp_must ⟨by show -9223372036854775808 ≤ (k : Int) + 1; omega, by show (k : Int) + 1 ≤ 9223372036854775807; omega⟩ ?_
      conv=>arg 5;whnf
      refine wp_end ⟨(k + 1, v, c_v, S), ⟨hlt, by rw [hte]; exact hSm, by show S.length ≤ k + 1; omega, h_v, fun z hz => (hSx z hz).elim (fun h => ⟨(i5 z h).1, by have := (i5 z h).2.1; show z.l.length ≤ k + 1; omega, (i5 z h).2.2⟩) (fun h => by subst h; exact ⟨hxf, by show nl.length ≤ k + 1; omega, hpk.2⟩)⟩, ⟨by repeat' first | exact trivial | refine ⟨.inl rfl, ?_⟩ | refine ⟨.inr rfl, ?_⟩, ⟨by repeat' first | exact trivial | refine ⟨.inl rfl, ?_⟩ | refine ⟨.inr rfl, ?_⟩, by repeat' first | exact trivial | refine ⟨.inl rfl, ?_⟩ | refine ⟨.inr rfl, ?_⟩, fun φ hφ => (List.mem_append.1 hφ).elim (fun h => (List.mem_cons.1 h).elim (fun h => by subst h; exact (show rowF (pt v S.length) (cellsA S) ∈ rowF (pt v S.length) (cellsA S) :: (rowF (pt y nl.length) (cellsL nl) :: (rowF (pt u q.2.2.length) (cellsL q.2.2) :: (acsF b1 T.length T ++ (x.fs (RP, RQ, RE) ++ [rowF (pt p n) (cellsO l), rowF (pt a n) (cellsO l), rowF none []])))) from .head _)) (fun h => by obtain ⟨z, hz, rfl⟩ := List.mem_map.1 h; rcases hSx z hz with h | rfl; exact (show acF z ∈ rowF (pt v S.length) (cellsA S) :: (rowF (pt y nl.length) (cellsL nl) :: (rowF (pt u q.2.2.length) (cellsL q.2.2) :: (acsF b1 T.length T ++ (x.fs (RP, RQ, RE) ++ [rowF (pt p n) (cellsO l), rowF (pt a n) (cellsO l), rowF none []])))) from .tail _ (.tail _ (.tail _ (List.mem_append_left _ (.tail _ (List.mem_map.2 ⟨z, h, rfl⟩)))))); exact (show rowF (pt y nl.length) (cellsL nl) ∈ rowF (pt v S.length) (cellsA S) :: (rowF (pt y nl.length) (cellsL nl) :: (rowF (pt u q.2.2.length) (cellsL q.2.2) :: (acsF b1 T.length T ++ (x.fs (RP, RQ, RE) ++ [rowF (pt p n) (cellsO l), rowF (pt a n) (cellsO l), rowF none []])))) from .tail _ (.head _)))) (fun h => (show φ ∈ rowF (pt v S.length) (cellsA S) :: (rowF (pt y nl.length) (cellsL nl) :: (rowF (pt u q.2.2.length) (cellsL q.2.2) :: (acsF b1 T.length T ++ (x.fs (RP, RQ, RE) ++ [rowF (pt p n) (cellsO l), rowF (pt a n) (cellsO l), rowF none []])))) from .tail _ (.tail _ (.tail _ (List.mem_append_right _ h)))))⟩, rfl⟩, by show RE.length - (k + 1) < RE.length - k; omega⟩
     ·obtain rfl : fd = true := o3
      have hpb := putV_bd t q.2.2
      rw [if_neg (by decide)] at hte
      have PU := fun w hr => queue.rput q.1 q.2.1 q.2.2 u q.2.2.length c_u t w h_u rfl hr (by omega)
      generalize putV t q.2.2 = nl at *
      have hnd : ∀ z ∈ nl, z.d.size ≤ maxLen := fun z hz => (hpb.2 z hz).elim (hp2 z) fun h => by rw [h]; exact htd
      conv=>arg 5;whnf
      refine wp_prim (.bool false) (fun w => by kernel_rfl) ?_
      conv=>arg 5;whnf
      refine wp_must ⟨by omega, by show (k : Int) < (RE.length : Int); omega, x7.some hlt⟩ ?_
      conv=>arg 5;whnf
      refine readF (sz := 8) (k := k) (f := 0) (.int .i64 2) rfl (show rowF (pt x.ea RE.length) (cellsE RE) ∈ rowF (pt u q.2.2.length) (cellsL q.2.2) :: (acsF b1 T.length T ++ (x.fs (RP, RQ, RE) ++ [rowF (pt p n) (cellsO l), rowF (pt a n) (cellsO l), rowF none []])) from .tail _ (List.mem_append_right _ (List.mem_append_left _ (.tail _ (.head _))))) hlt (x7.some hlt) (cellsE_at he 0 _ rfl) rfl ?_
      conv=>arg 5;whnf
      refine wp_must ⟨by omega, by show (k : Int) < (RE.length : Int); omega, x7.some hlt⟩ ?_
      conv=>arg 5;whnf
      refine readF (sz := 8) (k := k) (f := 0) (.int .i64 2) rfl (show rowF (pt x.ea RE.length) (cellsE RE) ∈ rowF (pt u q.2.2.length) (cellsL q.2.2) :: (acsF b1 T.length T ++ (x.fs (RP, RQ, RE) ++ [rowF (pt p n) (cellsO l), rowF (pt a n) (cellsO l), rowF none []])) from .tail _ (List.mem_append_right _ (List.mem_append_left _ (.tail _ (.head _))))) hlt (x7.some hlt) (cellsE_at he 0 _ rfl) rfl ?_
      conv=>arg 5;whnf
      refine wp_must ⟨by omega, by show (k : Int) < (RE.length : Int); omega, x7.some hlt⟩ ?_
      conv=>arg 5;whnf
      refine readF (sz := 8) (k := k) (f := 0) (.int .i64 2) rfl (show rowF (pt x.ea RE.length) (cellsE RE) ∈ rowF (pt u q.2.2.length) (cellsL q.2.2) :: (acsF b1 T.length T ++ (x.fs (RP, RQ, RE) ++ [rowF (pt p n) (cellsO l), rowF (pt a n) (cellsO l), rowF none []])) from .tail _ (List.mem_append_right _ (List.mem_append_left _ (.tail _ (.head _))))) hlt (x7.some hlt) (cellsE_at he 0 _ rfl) rfl ?_
      conv=>arg 5;whnf
      refine wp_must ⟨by omega, by show (k : Int) < (RE.length : Int); omega, x7.some hlt⟩ ?_
      conv=>arg 5;whnf
      refine readF (sz := 8) (k := k) (f := 0) (.int .i64 2) rfl (show rowF (pt x.ea RE.length) (cellsE RE) ∈ rowF (pt u q.2.2.length) (cellsL q.2.2) :: (acsF b1 T.length T ++ (x.fs (RP, RQ, RE) ++ [rowF (pt p n) (cellsO l), rowF (pt a n) (cellsO l), rowF none []])) from .tail _ (List.mem_append_right _ (List.mem_append_left _ (.tail _ (.head _))))) hlt (x7.some hlt) (cellsE_at he 0 _ rfl) rfl ?_
      conv=>arg 5;whnf
      refine wp_must ⟨by omega, by show (k : Int) < (RE.length : Int); omega, x7.some hlt⟩ ?_
      conv=>arg 5;whnf
      refine readH Sxs.env_ok (sz := 8) (k := k) (o := 1) (vs := cellsX t) rfl rfl (show rowF (pt x.ea RE.length) (cellsE RE) ∈ rowF (pt u q.2.2.length) (cellsL q.2.2) :: (acsF b1 T.length T ++ (x.fs (RP, RQ, RE) ++ [rowF (pt p n) (cellsO l), rowF (pt a n) (cellsO l), rowF none []])) from .tail _ (List.mem_append_right _ (List.mem_append_left _ (.tail _ (.head _))))) hlt (x7.some hlt) (fun j u hu => by have h9 := cellsE_at he (j + 1) u (evc_at hu); rw [show k * 8 + 1 + j = k * 8 + (j + 1) by omega]; exact h9) rfl ?_
      conv=>arg 5;whnf
      refine meet1F (f := 36) (n := nl.length) (v := fun a1 c1 => acc q.1 q.2.1 a1 nl.length c1) (xs := cellsL nl) rfl (by kernel_rfl) (fun β ρ w' hM' => PU w' (hM'.at_ (.head _))) (fun y c_y h_y f_y => ?_)
      have hxf : (⟨q.1, q.2.1, y, nl.length, c_y, nl⟩ : Ac).fit := ⟨h_y, rfl, by show nl.length ≤ 1000000; omega, hnd⟩
      have ST := fun w hA => rset11 T (⟨q.1, q.2.1, y, nl.length, c_y, nl⟩ : Ac) 0 b1 T.length c1 w hA (by omega) (by show 0 ≤ q.2.1; omega)
      have hSm := rsV_acs (⟨q.1, q.2.1, y, nl.length, c_y, nl⟩ : Ac) T rfl
      have hSl : (rsV keyA (⟨q.1, q.2.1, y, nl.length, c_y, nl⟩ : Ac) (emptyV q.2.1 nl.length) T).length ≤ T.length + 1 := by
       have h9 := pool.setP_le (T.map acP) (acP (⟨q.1, q.2.1, y, nl.length, c_y, nl⟩ : Ac))
       have h8 := congrArg List.length hSm
       rw [List.length_map] at h8 h9
       exact Nat.le_trans (Nat.le_of_eq h8) h9
      have hSx : ∀ z ∈ rsV keyA (⟨q.1, q.2.1, y, nl.length, c_y, nl⟩ : Ac) (emptyV q.2.1 nl.length) T, z ∈ T ∨ z = (⟨q.1, q.2.1, y, nl.length, c_y, nl⟩ : Ac) := fun z hz => rsV_mem hz
      generalize rsV keyA (⟨q.1, q.2.1, y, nl.length, c_y, nl⟩ : Ac) (emptyV q.2.1 nl.length) T = S at *
      conv=>arg 5;whnf
      refine meet1F (f := 37) (n := S.length) (v := fun a1 c1 => shV a1 S.length c1 (nextV 0)) (xs := cellsA S) rfl (by kernel_rfl) (fun β ρ w' hM' => ST w' (by exact acs_of hM' i4 rfl (fun z hz => (i5 z hz).1) (fun φ h => (show φ ∈ rowF (pt y nl.length) (cellsL nl) :: (rowF (pt u q.2.2.length) (cellsL q.2.2) :: (acsF b1 T.length T ++ (x.fs (RP, RQ, RE) ++ [rowF (pt p n) (cellsO l), rowF (pt a n) (cellsO l), rowF none []]))) from .tail _ (.tail _ (hfT φ h)))))) (fun v c_v h_v f_v => ?_)
      conv=>arg 5;whnf
      refine wp_prim (.slice v S.length c_v) (fun w => by kernel_rfl) ?_
      conv=>arg 5;whnf
      refine wp_must ⟨by show -9223372036854775808 ≤ (k : Int) + 1; omega, by show (k : Int) + 1 ≤ 9223372036854775807; omega⟩ ?_
      conv=>arg 5;whnf
      refine wp_end ⟨(k + 1, v, c_v, S), ⟨hlt, by rw [hte]; exact hSm, by show S.length ≤ k + 1; omega, h_v, fun z hz => (hSx z hz).elim (fun h => ⟨(i5 z h).1, by have := (i5 z h).2.1; show z.l.length ≤ k + 1; omega, (i5 z h).2.2⟩) (fun h => by subst h; exact ⟨hxf, by show nl.length ≤ k + 1; omega, hpk.2⟩)⟩, ⟨by repeat' first | exact trivial | refine ⟨.inl rfl, ?_⟩ | refine ⟨.inr rfl, ?_⟩, ⟨by repeat' first | exact trivial | refine ⟨.inl rfl, ?_⟩ | refine ⟨.inr rfl, ?_⟩, by repeat' first | exact trivial | refine ⟨.inl rfl, ?_⟩ | refine ⟨.inr rfl, ?_⟩, fun φ hφ => (List.mem_append.1 hφ).elim (fun h => (List.mem_cons.1 h).elim (fun h => by subst h; exact (show rowF (pt v S.length) (cellsA S) ∈ rowF (pt v S.length) (cellsA S) :: (rowF (pt y nl.length) (cellsL nl) :: (rowF (pt u q.2.2.length) (cellsL q.2.2) :: (acsF b1 T.length T ++ (x.fs (RP, RQ, RE) ++ [rowF (pt p n) (cellsO l), rowF (pt a n) (cellsO l), rowF none []])))) from .head _)) (fun h => by obtain ⟨z, hz, rfl⟩ := List.mem_map.1 h; rcases hSx z hz with h | rfl; exact (show acF z ∈ rowF (pt v S.length) (cellsA S) :: (rowF (pt y nl.length) (cellsL nl) :: (rowF (pt u q.2.2.length) (cellsL q.2.2) :: (acsF b1 T.length T ++ (x.fs (RP, RQ, RE) ++ [rowF (pt p n) (cellsO l), rowF (pt a n) (cellsO l), rowF none []])))) from .tail _ (.tail _ (.tail _ (List.mem_append_left _ (.tail _ (List.mem_map.2 ⟨z, h, rfl⟩)))))); exact (show rowF (pt y nl.length) (cellsL nl) ∈ rowF (pt v S.length) (cellsA S) :: (rowF (pt y nl.length) (cellsL nl) :: (rowF (pt u q.2.2.length) (cellsL q.2.2) :: (acsF b1 T.length T ++ (x.fs (RP, RQ, RE) ++ [rowF (pt p n) (cellsO l), rowF (pt a n) (cellsO l), rowF none []])))) from .tail _ (.head _)))) (fun h => (show φ ∈ rowF (pt v S.length) (cellsA S) :: (rowF (pt y nl.length) (cellsL nl) :: (rowF (pt u q.2.2.length) (cellsL q.2.2) :: (acsF b1 T.length T ++ (x.fs (RP, RQ, RE) ++ [rowF (pt p n) (cellsO l), rowF (pt a n) (cellsO l), rowF none []])))) from .tail _ (.tail _ (.tail _ (List.mem_append_right _ h)))))⟩, rfl⟩, by show RE.length - (k + 1) < RE.length - k; omega⟩
     ·obtain rfl : fd = true := o3
      obtain rfl : ft = t := congrArg Prod.fst (o4 rfl)
      have hdl : (dropV ft.n q.2.2).length ≤ q.2.2.length := List.length_filter_le ..
      have hnd : ∀ z ∈ dropV ft.n q.2.2, z.d.size ≤ maxLen := fun z hz => hp2 z (List.mem_filter.1 hz).1
      rw [if_pos rfl] at hte
      have DU := fun w hr => queue.rdrop q.1 q.2.1 q.2.2 u q.2.2.length c_u ft.n w h_u rfl hr hp1
      generalize dropV ft.n q.2.2 = nl at *
      conv=>arg 5;whnf
      refine wp_prim (.bool false) (fun w => by kernel_rfl) ?_
      conv=>arg 5;whnf
      refine wp_must ⟨by omega, by show (k : Int) < (RE.length : Int); omega, x7.some hlt⟩ ?_
      conv=>arg 5;whnf
      refine readF (sz := 8) (k := k) (f := 0) (.int .i64 3) rfl (show rowF (pt x.ea RE.length) (cellsE RE) ∈ rowF (pt u q.2.2.length) (cellsL q.2.2) :: (acsF b1 T.length T ++ (x.fs (RP, RQ, RE) ++ [rowF (pt p n) (cellsO l), rowF (pt a n) (cellsO l), rowF none []])) from .tail _ (List.mem_append_right _ (List.mem_append_left _ (.tail _ (.head _))))) hlt (x7.some hlt) (cellsE_at he 0 _ rfl) rfl ?_
      conv=>arg 5;whnf
      refine wp_must ⟨by omega, by show (k : Int) < (RE.length : Int); omega, x7.some hlt⟩ ?_
      conv=>arg 5;whnf
      refine readH Sxs.env_ok (sz := 8) (k := k) (o := 1) (vs := cellsX ft) rfl rfl (show rowF (pt x.ea RE.length) (cellsE RE) ∈ rowF (pt u q.2.2.length) (cellsL q.2.2) :: (acsF b1 T.length T ++ (x.fs (RP, RQ, RE) ++ [rowF (pt p n) (cellsO l), rowF (pt a n) (cellsO l), rowF none []])) from .tail _ (List.mem_append_right _ (List.mem_append_left _ (.tail _ (.head _))))) hlt (x7.some hlt) (fun j u hu => by have h9 := cellsE_at he (j + 1) u (evc_at hu); rw [show k * 8 + 1 + j = k * 8 + (j + 1) by omega]; exact h9) rfl ?_
      conv=>arg 5;whnf
      refine wp_prim (.bool false) (fun w => by have := neq_any (.tmp 71) (.tmp 76) ft ft w; rw [show sameT ft ft = true from (sameT_iff ft ft).2 rfl] at this; exact this) ?_
      conv=>arg 5;whnf
      refine wp_must ⟨by omega, by show (k : Int) < (RE.length : Int); omega, x7.some hlt⟩ ?_
      conv=>arg 5;whnf
      refine readF (sz := 8) (k := k) (f := 0) (.int .i64 3) rfl (show rowF (pt x.ea RE.length) (cellsE RE) ∈ rowF (pt u q.2.2.length) (cellsL q.2.2) :: (acsF b1 T.length T ++ (x.fs (RP, RQ, RE) ++ [rowF (pt p n) (cellsO l), rowF (pt a n) (cellsO l), rowF none []])) from .tail _ (List.mem_append_right _ (List.mem_append_left _ (.tail _ (.head _))))) hlt (x7.some hlt) (cellsE_at he 0 _ rfl) rfl ?_
      conv=>arg 5;whnf
      refine wp_must ⟨by omega, by show (k : Int) < (RE.length : Int); omega, x7.some hlt⟩ ?_
      conv=>arg 5;whnf
      refine readF (sz := 8) (k := k) (f := 0) (.int .i64 3) rfl (show rowF (pt x.ea RE.length) (cellsE RE) ∈ rowF (pt u q.2.2.length) (cellsL q.2.2) :: (acsF b1 T.length T ++ (x.fs (RP, RQ, RE) ++ [rowF (pt p n) (cellsO l), rowF (pt a n) (cellsO l), rowF none []])) from .tail _ (List.mem_append_right _ (List.mem_append_left _ (.tail _ (.head _))))) hlt (x7.some hlt) (cellsE_at he 0 _ rfl) rfl ?_
      conv=>arg 5;whnf
      refine wp_must ⟨by omega, by show (k : Int) < (RE.length : Int); omega, x7.some hlt⟩ ?_
      conv=>arg 5;whnf
      refine readF (sz := 8) (k := k) (f := 0) (.int .i64 3) rfl (show rowF (pt x.ea RE.length) (cellsE RE) ∈ rowF (pt u q.2.2.length) (cellsL q.2.2) :: (acsF b1 T.length T ++ (x.fs (RP, RQ, RE) ++ [rowF (pt p n) (cellsO l), rowF (pt a n) (cellsO l), rowF none []])) from .tail _ (List.mem_append_right _ (List.mem_append_left _ (.tail _ (.head _))))) hlt (x7.some hlt) (cellsE_at he 0 _ rfl) rfl ?_
      conv=>arg 5;whnf
      refine wp_must ⟨by omega, by show (k : Int) < (RE.length : Int); omega, x7.some hlt⟩ ?_
      conv=>arg 5;whnf
      refine readF (sz := 8) (k := k) (f := 2) (.int .i64 ft.n) rfl (show rowF (pt x.ea RE.length) (cellsE RE) ∈ rowF (pt u q.2.2.length) (cellsL q.2.2) :: (acsF b1 T.length T ++ (x.fs (RP, RQ, RE) ++ [rowF (pt p n) (cellsO l), rowF (pt a n) (cellsO l), rowF none []])) from .tail _ (List.mem_append_right _ (List.mem_append_left _ (.tail _ (.head _))))) hlt (x7.some hlt) (cellsE_at he 2 _ rfl) rfl ?_
      conv=>arg 5;whnf
      refine meet1F (f := 35) (n := nl.length) (v := fun a1 c1 => acc q.1 q.2.1 a1 nl.length c1) (xs := cellsL nl) rfl (by kernel_rfl) (fun β ρ w' hM' => DU w' (hM'.at_ (.head _))) (fun y c_y h_y f_y => ?_)
      have hxf : (⟨q.1, q.2.1, y, nl.length, c_y, nl⟩ : Ac).fit := ⟨h_y, rfl, by show nl.length ≤ 1000000; omega, hnd⟩
      have ST := fun w hA => rset11 T (⟨q.1, q.2.1, y, nl.length, c_y, nl⟩ : Ac) 0 b1 T.length c1 w hA (by omega) (by show 0 ≤ q.2.1; omega)
      have hSm := rsV_acs (⟨q.1, q.2.1, y, nl.length, c_y, nl⟩ : Ac) T rfl
      have hSl : (rsV keyA (⟨q.1, q.2.1, y, nl.length, c_y, nl⟩ : Ac) (emptyV q.2.1 nl.length) T).length ≤ T.length + 1 := by
       have h9 := pool.setP_le (T.map acP) (acP (⟨q.1, q.2.1, y, nl.length, c_y, nl⟩ : Ac))
       have h8 := congrArg List.length hSm
       rw [List.length_map] at h8 h9
       exact Nat.le_trans (Nat.le_of_eq h8) h9
      have hSx : ∀ z ∈ rsV keyA (⟨q.1, q.2.1, y, nl.length, c_y, nl⟩ : Ac) (emptyV q.2.1 nl.length) T, z ∈ T ∨ z = (⟨q.1, q.2.1, y, nl.length, c_y, nl⟩ : Ac) := fun z hz => rsV_mem hz
      generalize rsV keyA (⟨q.1, q.2.1, y, nl.length, c_y, nl⟩ : Ac) (emptyV q.2.1 nl.length) T = S at *
      conv=>arg 5;whnf
      refine meet1F (f := 37) (n := S.length) (v := fun a1 c1 => shV a1 S.length c1 (nextV 0)) (xs := cellsA S) rfl (by kernel_rfl) (fun β ρ w' hM' => ST w' (by exact acs_of hM' i4 rfl (fun z hz => (i5 z hz).1) (fun φ h => (show φ ∈ rowF (pt y nl.length) (cellsL nl) :: (rowF (pt u q.2.2.length) (cellsL q.2.2) :: (acsF b1 T.length T ++ (x.fs (RP, RQ, RE) ++ [rowF (pt p n) (cellsO l), rowF (pt a n) (cellsO l), rowF none []]))) from .tail _ (.tail _ (hfT φ h)))))) (fun v c_v h_v f_v => ?_)
      conv=>arg 5;whnf
      refine wp_prim (.slice v S.length c_v) (fun w => by kernel_rfl) ?_
      conv=>arg 5;whnf
      refine wp_must ⟨by show -9223372036854775808 ≤ (k : Int) + 1; omega, by show (k : Int) + 1 ≤ 9223372036854775807; omega⟩ ?_
      conv=>arg 5;whnf
      refine wp_end ⟨(k + 1, v, c_v, S), ⟨hlt, by rw [hte]; exact hSm, by show S.length ≤ k + 1; omega, h_v, fun z hz => (hSx z hz).elim (fun h => ⟨(i5 z h).1, by have := (i5 z h).2.1; show z.l.length ≤ k + 1; omega, (i5 z h).2.2⟩) (fun h => by subst h; exact ⟨hxf, by show nl.length ≤ k + 1; omega, hpk.2⟩)⟩, ⟨by repeat' first | exact trivial | refine ⟨.inl rfl, ?_⟩ | refine ⟨.inr rfl, ?_⟩, ⟨by repeat' first | exact trivial | refine ⟨.inl rfl, ?_⟩ | refine ⟨.inr rfl, ?_⟩, by repeat' first | exact trivial | refine ⟨.inl rfl, ?_⟩ | refine ⟨.inr rfl, ?_⟩, fun φ hφ => (List.mem_append.1 hφ).elim (fun h => (List.mem_cons.1 h).elim (fun h => by subst h; exact (show rowF (pt v S.length) (cellsA S) ∈ rowF (pt v S.length) (cellsA S) :: (rowF (pt y nl.length) (cellsL nl) :: (rowF (pt u q.2.2.length) (cellsL q.2.2) :: (acsF b1 T.length T ++ (x.fs (RP, RQ, RE) ++ [rowF (pt p n) (cellsO l), rowF (pt a n) (cellsO l), rowF none []])))) from .head _)) (fun h => by obtain ⟨z, hz, rfl⟩ := List.mem_map.1 h; rcases hSx z hz with h | rfl; exact (show acF z ∈ rowF (pt v S.length) (cellsA S) :: (rowF (pt y nl.length) (cellsL nl) :: (rowF (pt u q.2.2.length) (cellsL q.2.2) :: (acsF b1 T.length T ++ (x.fs (RP, RQ, RE) ++ [rowF (pt p n) (cellsO l), rowF (pt a n) (cellsO l), rowF none []])))) from .tail _ (.tail _ (.tail _ (List.mem_append_left _ (.tail _ (List.mem_map.2 ⟨z, h, rfl⟩)))))); exact (show rowF (pt y nl.length) (cellsL nl) ∈ rowF (pt v S.length) (cellsA S) :: (rowF (pt y nl.length) (cellsL nl) :: (rowF (pt u q.2.2.length) (cellsL q.2.2) :: (acsF b1 T.length T ++ (x.fs (RP, RQ, RE) ++ [rowF (pt p n) (cellsO l), rowF (pt a n) (cellsO l), rowF none []])))) from .tail _ (.head _)))) (fun h => (show φ ∈ rowF (pt v S.length) (cellsA S) :: (rowF (pt y nl.length) (cellsL nl) :: (rowF (pt u q.2.2.length) (cellsL q.2.2) :: (acsF b1 T.length T ++ (x.fs (RP, RQ, RE) ++ [rowF (pt p n) (cellsO l), rowF (pt a n) (cellsO l), rowF none []])))) from .tail _ (.tail _ (.tail _ (List.mem_append_right _ h)))))⟩, rfl⟩, by show RE.length - (k + 1) < RE.length - k; omega⟩
  ·have hkn : k = RE.length := by have h3 := of_decide_eq_false (show decide ((k : Int) < (RE.length : Int)) = false from h1); omega
   have hz : T.map acP = zb RP := by rw [i2, hkn, List.take_length]; exact t2
   have GT := fun s w hA => rget11 0 T b1 T.length c1 s w hA (by omega)
   rw [hz] at GT
   conv=>arg 5;whnf
   refine loop_ruleE Sxs.env_ok.keeps.soon_ [(3, (line [0, 1, 2, 3, 4, 5, 6, 7, 8, 9, 10], [])), (9, (.one 0 (.one 1 (.one 2 (.one 3 (.one 4 (.one 5 (.one 6 (.fork 7 (.one 8 (.one 9 (.done))) 8 (.one 7 (.one 9 (.done)))))))))), [])), (10, (.one 0 (.one 1 (.one 2 (.one 3 (.one 4 (.one 5 (.one 6 (.fork 7 (.one 8 (.one 9 (.one 10 (.one 11 (.one 12 (.one 13 (.done))))))) 11 (.one 7 (.one 8 (.one 9 (.one 10 (.one 12 (.one 13 (.done)))))))))))))), [])), (11, (line [0, 1, 2, 3, 4, 5, 6, 7, 8, 9, 10, 11, 12, 13, 14, 15, 16, 17, 18, 19, 20, 21, 22, 23, 24, 25, 26, 27, 28, 29, 30, 31, 32, 33, 34, 35, 36, 37, 38, 39, 40], [])), (14, (lineT [0, 1, 2, 3, 4, 5, 6, 7] [8], [])), (15, (lineT [0, 1, 2, 3, 4, 5, 6] [7], [])), (21, (line [0, 1, 2, 3, 4, 5, 6, 7, 8], []))] (schedQ_ok _ _ (by kernel_rfl)) [1] (fun m : Nat => m ≤ x.L.length) (fun m => (⟨[some ([.v (.int .i64 C.sh), .v (.int .i64 C.so), .v (.int .i64 C.hd), .v (.int .i64 C.per), .v (.int .i64 C.bp), .v (.int .i64 C.fd), .v (.int .i64 C.wk), .v (.int .i64 C.rm)], 23)], [], acsF b1 T.length T ++ (x.fs (RP, RQ, RE) ++ [rowF (pt p n) (cellsO l), rowF (pt a n) (cellsO l), rowF none []])⟩, [.any, .any, .p 0 0, .any, .v (.bool false), .v (.slice x.a x.L.length x.c), .any, .any, .v (.slice b1 T.length c1), .any, .any, .any, .any, .any, .v (.int .i64 m), .any, .any, .any, .any, .any, .any, .any, .any, .any, .any, .any, .any, .any, .any, .any, .any, .any, .any, .any, .any, .any, .any, .any, .any, .any, .any, .any, .any, .any, .any, .any, .any, .any, .any, .any, .any, .any, .any, .any, .any, .any, .any, .any, .any, .any, .any, .any, .any, .any, .any, .any, .any, .any, .any, .any, .any, .any, .any, .any, .any, .any, .any, .any, .any, .any, .any, .any, .any, .any, .any, .any, .any, .any, .any, .any, .any, .any, .any, .any, .any, .any, .any, .any, .any, .any, .any, .any, .any, .any, .any, .any, .any, .any, .any, .any, .any, .any, .any, .any, .any, .any, .any, .any, .any, .any, .any, .any, .any, .any, .any, .any, .any, .any, .any, .any, .any, .any, .any, .any, .any, .any, .any, .any, .any, .any, .any, .any, .any, .any, .any, .any, .any, .any, .any, .any, .any, .any])) (fun m => x.L.length - m) 0 (Nat.zero_le _) ⟨by repeat' first | exact trivial | refine ⟨.inl rfl, ?_⟩ | refine ⟨.inr rfl, ?_⟩, ⟨by repeat' first | exact trivial | refine ⟨.inl rfl, ?_⟩ | refine ⟨.inr rfl, ?_⟩, by repeat' first | exact trivial | refine ⟨.inl rfl, ?_⟩ | refine ⟨.inr rfl, ?_⟩, fun _ h => h⟩, rfl⟩ ?_
   intro m hm
   conv=>arg 5;whnf
   refine wp_br (fun h2 => ?_) (fun h2 => ?_)
   ·have hltm : m < x.L.length := by have h3 := of_decide_eq_true (show decide ((m : Int) < (x.L.length : Int)) = true from h2); omega
    obtain ⟨z, hz1⟩ : ∃ z, x.L[m]? = some z := ⟨_, List.getElem?_eq_getElem hltm⟩
    have hzm := List.mem_of_getElem? hz1
    obtain ⟨zs, zn, zl, zd⟩ := x2 z hzm
    have hzp : acP z ∈ RP := by rw [← x1]; exact List.mem_map.2 ⟨z, hzm, rfl⟩
    have hzg : getP (zb RP) z.s = (z.s, 0, z.l) := by
     rw [zb_get hord]
     have h9 := getP_in hord hzp
     have h9 : getP RP z.s = acP z := h9
     rw [h9]
     rfl
    have GT := GT z.s
    rw [hzg] at GT
    conv=>arg 5;whnf
    refine wp_must ⟨by omega, by show (m : Int) < (x.L.length : Int); omega, x3.some hltm⟩ ?_
    conv=>arg 5;whnf
    refine readF (sz := 3) (k := m) (f := 0) (.int .i64 z.s) rfl (show rowF (pt x.a x.L.length) (cellsA x.L) ∈ acsF b1 T.length T ++ (x.fs (RP, RQ, RE) ++ [rowF (pt p n) (cellsO l), rowF (pt a n) (cellsO l), rowF none []]) from List.mem_append_right _ (List.mem_append_left _ (.tail _ (.tail _ (List.mem_append_left _ (.head _)))))) hltm (x3.some hltm) (cellsA_at hz1 0 _ rfl) rfl ?_
    conv=>arg 5;whnf
    refine meetAc (f := 33) (z.s, 0, z.l) (acsF b1 T.length T) (fun φ h => (show φ ∈ acsF b1 T.length T ++ (x.fs (RP, RQ, RE) ++ [rowF (pt p n) (cellsO l), rowF (pt a n) (cellsO l), rowF none []]) from List.mem_append_left _ h)) rfl (by kernel_rfl) (fun β ρ w' hM' => GT w' (acs_of hM' i4 rfl (fun z hz => (i5 z hz).1) (fun φ h => (show φ ∈ acsF b1 T.length T ++ (x.fs (RP, RQ, RE) ++ [rowF (pt p n) (cellsO l), rowF (pt a n) (cellsO l), rowF none []]) from List.mem_append_left _ h)))) (fun u c_u h_u f_u => ?_)
    conv=>arg 5;whnf
    refine wp_must ⟨by omega, by show (m : Int) < (x.L.length : Int); omega, x3.some hltm⟩ ?_
    conv=>arg 5;whnf
    refine readF (sz := 3) (k := m) (f := 2) (.slice z.a z.n z.c) rfl (show rowF (pt x.a x.L.length) (cellsA x.L) ∈ rowF (pt u z.l.length) (cellsL z.l) :: (acsF b1 T.length T ++ (x.fs (RP, RQ, RE) ++ [rowF (pt p n) (cellsO l), rowF (pt a n) (cellsO l), rowF none []])) from .tail _ (List.mem_append_right _ (List.mem_append_left _ (.tail _ (.tail _ (List.mem_append_left _ (.head _))))))) hltm (x3.some hltm) (cellsA_at hz1 2 _ rfl) rfl ?_
    obtain ⟨vs, vb, va, vn, vc, vl⟩ := z
    have zn : vn = vl.length := zn
    subst zn
    have zs : Sl va vl.length vc := zs
    conv=>arg 5;whnf
    refine meetc (f := 31) (v := .bool true) rfl (by kernel_rfl) (fun β ρ w' hM' => rtxs vl u vl.length c_u va vc w' h_u rfl (hM'.at_ (show rowF (pt u vl.length) (cellsL vl) ∈ rowF (pt u vl.length) (cellsL vl) :: (acsF b1 T.length T ++ (x.fs (RP, RQ, RE) ++ [rowF (pt p n) (cellsO l), rowF (pt a n) (cellsO l), rowF none []])) from .head _)) zs (hM'.at_ (show rowF (pt va vl.length) (cellsL vl) ∈ rowF (pt u vl.length) (cellsL vl) :: (acsF b1 T.length T ++ (x.fs (RP, RQ, RE) ++ [rowF (pt p n) (cellsO l), rowF (pt a n) (cellsO l), rowF none []])) from .tail _ (List.mem_append_right _ (List.mem_append_left _ (.tail _ (.tail _ (List.mem_append_left _ (.tail _ (List.mem_map.2 ⟨_, hzm, rfl⟩)))))))))) ?_
    conv=>arg 5;whnf
    refine wp_must ⟨by show -9223372036854775808 ≤ (m : Int) + 1; omega, by show (m : Int) + 1 ≤ 9223372036854775807; omega⟩ ?_
    conv=>arg 5;whnf
    refine wp_end ⟨m + 1, hltm, ⟨by repeat' first | exact trivial | refine ⟨.inl rfl, ?_⟩ | refine ⟨.inr rfl, ?_⟩, ⟨by repeat' first | exact trivial | refine ⟨.inl rfl, ?_⟩ | refine ⟨.inr rfl, ?_⟩, by repeat' first | exact trivial | refine ⟨.inl rfl, ?_⟩ | refine ⟨.inr rfl, ?_⟩, fun φ hφ => (show φ ∈ rowF (pt u vl.length) (cellsL vl) :: (acsF b1 T.length T ++ (x.fs (RP, RQ, RE) ++ [rowF (pt p n) (cellsO l), rowF (pt a n) (cellsO l), rowF none []])) from .tail _ hφ)⟩, rfl⟩, by show x.L.length - (m + 1) < x.L.length - m; omega⟩
   ·have S1 := fun w hM hA => pslots T b1 T.length c1 w hM hA (by omega)
    have S2 := fun w hM hA => pslots x.L x.a x.L.length x.c w hM hA (by omega)
    rw [slotsA_P, hz, zb_slots] at S1
    rw [slotsA_P, x1] at S2
    generalize slotsP RP = sl at *
    conv=>arg 5;whnf
    refine meetc (f := 25) (v := .int .i64 sl) rfl (by kernel_rfl) (fun β ρ w' hM' => S1 w' (hM.later hM'.below) (acs_of hM' i4 rfl (fun z hz => (i5 z hz).1) (fun φ h => (show φ ∈ acsF b1 T.length T ++ (x.fs (RP, RQ, RE) ++ [rowF (pt p n) (cellsO l), rowF (pt a n) (cellsO l), rowF none []]) from List.mem_append_left _ h)))) ?_
    conv=>arg 5;whnf
    refine meetc (f := 25) (v := .int .i64 sl) rfl (by kernel_rfl) (fun β ρ w' hM' => S2 w' (hM.later hM'.below) (acs_of hM' x3 rfl x2 (fun φ h => (show φ ∈ acsF b1 T.length T ++ (x.fs (RP, RQ, RE) ++ [rowF (pt p n) (cellsO l), rowF (pt a n) (cellsO l), rowF none []]) from List.mem_append_right _ (List.mem_append_left _ (.tail _ (.tail _ (List.mem_append_left _ h)))))))) ?_
    conv=>arg 5;whnf
    refine wp_g1 (fun _ => ?_) (fun h => by simp at h)
    conv=>arg 5;whnf
    refine meetc (f := 15) (v := .bool true) rfl (by kernel_rfl) (fun β ρ w' hM' => live w' (hM.later hM'.below)) ?_
    conv=>arg 5;whnf
    exact wp_back fun β ρ w' hM' => ⟨rfl, hM'.below⟩
end Go.Proofs.YtofpmnkkimgkfaaGreatDoor.poolEvents
namespace Go.Proofs.YtofpmnkkimgkfaaGreatDoor.poolEvents
open Go.ChangeShapes Go.WideShapes Go.ChangeAt Go.RowKit
open Go.ChangeMaps (open_string shut_string)
theorem own : ownKnob Tryz.prog.godebug = none := by kernel_rfl
theorem laidOut : laidOutB Tryz.prog = true := by kernel_rfl
noncomputable def laidWorld (os : Os) : World :=
 let w0 := World.holding Tryz.prog os ⟨#[], #[], []⟩
 { w0 with heap := w0.heap.modify 0 fun
   | .cells _ t frozen => .cells #[.int .i64 255, .int .i64 4294967295, .int .i64 1099511627776, .int .i64 1099511627776, .int .i64 1073741824] t frozen
   | o => o }
theorem laid_met (os : Os) (args : Array Value) : laidMet Tryz.prog Rows.poolEventsRow.laid ((laidWorld os).forCall (fun _ _ => 0) ⟨#[], args, []⟩).memory :=
 laidMet_of_run (ps := [.cell 0 0, .cell 0 1, .cell 0 2, .cell 0 3, .cell 0 4]) 8 (by kernel_rfl) (by kernel_rfl) (by kernel_rfl)
theorem lifted (os : Os) (started : os.Started) (H : Type) (enc : TypeId × Value → H) :
  ReturnsInHanded {} Tryz.checked os 6 .any (fun w args => (Rows.poolEventsSpec.pre enc Tryz.prog Tryz.f6 Rows.poolEventsRow.domain false w args ∧ laidMet Tryz.prog Rows.poolEventsRow.laid w) ∧ sizedMet enc Tryz.prog Tryz.f6 (OpenSpec.ofChange Rows.poolEventsSpec) false w args) (Rows.poolEventsSpec.post enc Tryz.prog Tryz.f6 false true false false) := by
 refine returnsInHanded_of_change_and (C := Tryz.checked) (X := fun w _ => laidMet Tryz.prog Rows.poolEventsRow.laid w) (fun _ _ _ hh h => h.of_heap hh) own started (by kernel_rfl) Tryz.func6
  (ChangeSpec.witness_at (enc := enc) (C := Tryz.checked) (os := os) (X := fun w _ => laidMet Tryz.prog Rows.poolEventsRow.laid w) false (laidWorld os) #[.agg #[.int .i64 0, .int .i64 0, .int .i64 0, .int .i64 0, .int .i64 0, .int .i64 0, .int .i64 0, .int .i64 0], .slice none 0 0] 8 rfl (by kernel_rfl) (by kernel_rfl) (by kernel_rfl) (by kernel_rfl) (by kernel_rfl) (laid_met os _)) ?_
 intro W base args ds gs before hval0 hW hcnd _ hL _
 have hval : ∀ (j : Nat) t v, Tryz.f6.params[j]? = some t → args[j]? = some v → Value.okWide Tryz.prog W .any base t v := hval0
 have hW' := hW
 obtain ⟨p, q, hA0, hV, rfl, hfz, hnd⟩ := hW
 have hA : DataW.TrodAll enc Tryz.prog W 0 (fun _ => true) true Tryz.f6.params.toList args.toList ds p := hA0
 rw [Tryz.params6] at hA hval
 obtain ⟨v0, vs0, d0, ds0, p0, q0, hargs, rfl, rfl, h0, r0⟩ := trodAll_cons hA
 obtain ⟨v1, vs1, d1, ds1, p1, q1, rfl, rfl, rfl, h1, r1⟩ := trodAll_cons r0
 obtain ⟨rfl, rfl, rfl⟩ := trodAll_nil r1
 obtain rfl : args = #[v0, v1] := by cases args; simp_all
 obtain ⟨rfl, rfl⟩ := trodVars_none hV
 have k0 := h0
 have lt0 : ∀ x ∈ p0, x.block < W.heap.size := by obtain ⟨m, hm⟩ := k0; exact DataW.trod_lt m _ _ _ hm
 obtain ⟨C0, rfl, f0⟩ := pool.open_cfg (hval 0 23 v0 rfl rfl) h0
 have k1 := h1
 have lt1 : ∀ x ∈ p1, x.block < W.heap.size := by obtain ⟨m, hm⟩ := k1; exact DataW.trod_lt m _ _ _ hm
 obtain ⟨a1, n1, c1, l1, rfl, f1⟩ := pool.open_ops (hval 1 49 v1 rfl rfl) h1
 clear hA0 hval0
 have hM : txn.Most W := txn.most_of_laid hL
 refine (walk C0 a1 n1 c1 l1 W hM f0 f1).mono fun e W' ⟨he, bel⟩ => ?_
 subst he
 exact ⟨_, rfl, _, _, _, [], _, [], hW', trodAll_mk1 (shut_bool Tryz.underlying4 _), (trodAll_cons_mk (Below.trod laidOut (by kernel_rfl) (of_decide_eq_true (by kernel_rfl)) k0 bel lt0) (trodAll_cons_mk (Below.trod laidOut (by kernel_rfl) (of_decide_eq_true (by kernel_rfl)) k1 bel lt1) trodAll_mk0)), rfl, bel.frame _, fun h => by cases h⟩
theorem over : Rows.PoolEventsSaid :=
 OpenClaim.holds_of_wide 6 Tryz.f6 rfl rfl rfl rfl rfl rfl rfl ⟨rfl, rfl, rfl, rfl, rfl⟩ rfl rfl rfl rfl rfl (by kernel_rfl) Tryz.func6 (by kernel_rfl)
  (of_decide_eq_true (by kernel_rfl)) (by unfold Func.isWrapper; first | (rw [if_pos (by decide +kernel)]; kernel_rfl) | (rw [if_neg (by decide +kernel)]; exact ⟨rfl, rfl⟩))
  (fun os started H enc _ => lifted os started H enc)
theorem proved : Rows.PoolEventsCardSaid :=
 Claim7.holds_tied_plain_at .later [] [.data] true (true, "d7a6610ef8b400b1696ea98ccecb2799c1cff8b5abd6bf6f50ead7769ba5ae9c") false
  over (fun _ h => by cases h) (by kernel_rfl) (fun _ h => by cases h) poolEvents_row_tie rfl ⟨rfl, rfl⟩ (by kernel_rfl) rfl
  (fun f fn hf hfn => by
   obtain rfl : f = 6 := (Option.some.inj ((show Tryz.prog.funcNamed "hopper/hopperlaw13.PoolEvents" = some 6 by kernel_rfl).symm.trans hf)).symm
   obtain rfl : fn = Tryz.f6 := (Option.some.inj (Tryz.func6.symm.trans hfn)).symm
   exact ⟨by kernel_rfl, fun j t ht => by
    rw [Tryz.params6] at ht
    match j, ht with
    | 0, ht =>
     obtain rfl : t = 23 := by simpa using ht.symm
     exact (show Tryz.prog.wantsStandIn 23 = false by kernel_rfl)
    | 1, ht =>
     obtain rfl : t = 49 := by simpa using ht.symm
     exact (show Tryz.prog.wantsStandIn 49 = false by kernel_rfl)
    | j + 2, ht => simp at ht⟩)
  (by kernel_rfl)
#print axioms proved
end Go.Proofs.YtofpmnkkimgkfaaGreatDoor.poolEvents
