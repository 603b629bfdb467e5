/- hopper/hopperlaw15.LookPool answers true at every input, and every argument reads behind the call as it read before; hopper/txn.most holds what the program's text lays there: the card ties it. No other condition. -/
import Derived.Test.YtofpmnkkimgkfaaGreatDoorRows
import Derived.Test.YtofpmnkkimgkfaaGreatDoorKTxn
import Derived.OpenShut
import Derived.ChangeOld
import Derived.LaidLaws
import Derived.Test.YtofpmnkkimgkfaaGreatDoorKLkTop
import Derived.Test.YtofpmnkkimgkfaaGreatDoorKPoAll
import Derived.Test.YtofpmnkkimgkfaaGreatDoorCards
import Derived.Test.YtofpmnkkimgkfaaGreatDoorTie
import Derived.WalkKit
import Derived.ProofKit
import Derived.ShutString
import Derived.Below
import Derived.Handed
import Derived.SevenTiedAt
set_option linter.all false
set_option maxHeartbeats 4000000
set_option maxRecDepth 100000
namespace Go.Proofs.YtofpmnkkimgkfaaGreatDoor.txn
open Go.RowKit Go.ChangeShapes Go.WideShapes
theorem most_of_laid {W : World} (h : laidMet Tryz.prog [("hopper/txn.most", Rows.laid_hopper_txn_most)] W) : Most W := by
 obtain ⟨ps, ⟨g, t, cs, fuel, p, q, hg, ht, hvar, hd, _, _⟩, _⟩ := h
 obtain rfl := Option.some.inj ((show Tryz.prog.globalNamed "hopper/txn.most" = some 0 by kernel_rfl).symm.trans hg)
 obtain rfl := Option.some.inj ((show (Tryz.prog.globals[0]?).map (·.type) = some 190 by kernel_rfl).symm.trans ht)
 obtain ⟨xs, m, _, hx, hlen, hn, hi⟩ := DataW.trod_array Tryz.underlying190 hd
 have h5 : cs.toList.length = 5 := hlen.trans (by kernel_rfl)
 obtain ⟨l⟩ := cs
 match l, h5 with
 | [c0, c1, c2, c3, c4], _ =>
  match xs, hn with
  | [y0, y1, y2, y3, y4], _ =>
   have k3 : Tryz.prog.cellsOf 3 = 1 := by kernel_rfl
   have g0 := hi 0 (by omega)
   have g1 := hi 1 (by omega)
   have g2 := hi 2 (by omega)
   have g3 := hi 3 (by omega)
   have g4 := hi 4 (by omega)
   simp [k3] at g0 g1 g2 g3 g4
   obtain ⟨a0, e0, f0, _⟩ := DataW.trod_int Tryz.underlying3 g0
   obtain ⟨a1, e1, f1, _⟩ := DataW.trod_int Tryz.underlying3 g1
   obtain ⟨a2, e2, f2, _⟩ := DataW.trod_int Tryz.underlying3 g2
   obtain ⟨a3, e3, f3, _⟩ := DataW.trod_int Tryz.underlying3 g3
   obtain ⟨a4, e4, f4, _⟩ := DataW.trod_int Tryz.underlying3 g4
   simp at e0 e1 e2 e3 e4
   subst e0 e1 e2 e3 e4 f0 f1 f2 f3 f4
   simp [Rows.laid_hopper_txn_most] at hx
   obtain ⟨⟨r0, r1, r2, r3, r4⟩, _⟩ := hx
   subst r0 r1 r2 r3 r4
   have z0 := World.var?_cell hg hvar 0
   have z1 := World.var?_cell hg hvar 1
   have z2 := World.var?_cell hg hvar 2
   have z3 := World.var?_cell hg hvar 3
   have z4 := World.var?_cell hg hvar 4
   have hz : 0 < W.heap.size := by
    rcases Nat.eq_zero_or_pos W.heap.size with h0 | h0
    ·exfalso
     simp [World.cell?, Array.getElem?_eq_none (show W.heap.size ≤ 0 by omega)] at z0
    ·exact h0
   exact ⟨by simpa using z0, by simpa using z1, by simpa using z2, by simpa using z3, by simpa using z4, hz⟩
end Go.Proofs.YtofpmnkkimgkfaaGreatDoor.txn
namespace Go.Proofs.YtofpmnkkimgkfaaGreatDoor.lookPool
open Go.RowKit Sx txn queue greedy shard pool Go.Proofs.YtofpmnkkimgkfaaGreatDoor.look
theorem walk (C : Cf) (a : Option Addr) (n c : Nat) (L : List Ac) (O : Oq) (w : World) (hM : Most w) (hC : True) (hI : AccsIn w a n c L) (hO : O.fits) :
  Calls Tryz.prog 9 (List.toArray [C.val, .slice a n c, O.val]) w fun e w' => e = .returned (.bool true) ∧ Below w.heap.size w w' := by
 refine calls_of_exec Sxk.env_ok.keeps.soon_ Tryz.func9 rfl [(8, (.one 0 (.one 1 (.one 2 (.one 4 (.fork 3 (.fork 5 (.one 6 (.one 7 (.done))) 6 (.one 5 (.one 7 (.done)))) 6 (.one 3 (.one 5 (.one 7 (.done)))))))), [])), (9, (line [0, 1, 2, 3, 4, 5, 6, 7, 8, 9, 10, 11, 12, 13], []))] (schedQ_ok _ _ (by kernel_rfl)) (acsF a n L) hI.facts ?_
 have FW := fun w' (hM' : AccsIn w' a n c L) => fewW L 20 a n c w' hM'
 generalize hfb : (fewA L && decide ((n : Int) ≤ 20)) = fb at *
 conv=>arg 5;whnf
 refine meetc (f := 14) (v := .bool fb) rfl (by kernel_rfl) (fun β ρ w' hM' => FW w' (hI.mem hM' fun φ hφ => hφ)) ?_
 cases fb with
 | false =>
  conv=>arg 5;whnf
  refine meetc (f := 41) (v := .bool true) rfl (by kernel_rfl) (fun β ρ w' hM' => live w' (hM.later hM'.below)) ?_
  conv=>arg 5;whnf
  exact wp_back fun β ρ w' hM' => ⟨rfl, hM'.below⟩
 | true =>
  simp only [Bool.and_eq_true, decide_eq_true_eq] at hfb
  obtain ⟨hA, hx20⟩ := hI.few hfb.1
  have hn := hI.2.1
  have hn20 : n ≤ 20 := by omega
  have P1 := fun w hM hA => rcheck C L a n c w hM hA (by omega)
  conv=>arg 5;whnf
  refine wp_g0 (fun h1 => ?_) (fun h1 => ?_)
  rotate_left
  ·(conv => arg 5; whnf)
   refine meetc (f := 41) (v := .bool true) rfl (by kernel_rfl) (fun β ρ w' hM' => live w' (hM.later hM'.below)) ?_
   conv=>arg 5;whnf
   exact wp_back fun β ρ w' hM' => ⟨rfl, hM'.below⟩
  have h2 : ¬ (500 : Int) < (O.d.size : Int) := of_decide_eq_false h1
  have hd : O.d.size ≤ 1000000 := by omega
  have hG : -9223372036854775808 ≤ O.g ∧ O.g ≤ 9223372036854775807 := by have := hO.2.2.2.1; unfold Fits at this; omega
  have hT : (tplP (L.map acP) O.g).length ≤ 1000000 := Nat.le_trans (tplP_le (fun x hx => by obtain ⟨y, hy, rfl⟩ := List.mem_map.1 hx; exact hx20 y hy) (by rw [List.length_map]; omega) O.g) (by omega)
  cases hpb : pckB C (L.map acP) with
  | false =>
   rw [hpb] at P1
   conv=>arg 5;whnf
   refine meetc (f := 24) (v := .bool false) rfl (by kernel_rfl) (fun β ρ w' hM' => P1 w' (hM.later hM'.below) (Mem.acs hA hM' fun φ hφ => hφ)) ?_
   conv=>arg 5;whnf
   refine meetc (f := 41) (v := .bool true) rfl (by kernel_rfl) (fun β ρ w' hM' => live w' (hM.later hM'.below)) ?_
   conv=>arg 5;whnf
   exact wp_back fun β ρ w' hM' => ⟨rfl, hM'.below⟩
  | true =>
   rw [hpb] at P1
   conv=>arg 5;whnf
   refine meetc (f := 24) (v := .bool true) rfl (by kernel_rfl) (fun β ρ w' hM' => P1 w' (hM.later hM'.below) (Mem.acs hA hM' fun φ hφ => hφ)) ?_
   conv=>arg 5;whnf
   refine wp_g0 (fun h3 => ?_) (fun h3 => ?_)
   rotate_left
   ·(conv => arg 5; whnf)
    refine meetc (f := 41) (v := .bool true) rfl (by kernel_rfl) (fun β ρ w' hM' => live w' (hM.later hM'.below)) ?_
    conv=>arg 5;whnf
    exact wp_back fun β ρ w' hM' => ⟨rfl, hM'.below⟩
   conv=>arg 5;whnf
   refine wp_br (fun h4 => ?_) (fun h4 => ?_)
   ·(conv => arg 5; whnf)
    refine meetc (f := 41) (v := .bool true) rfl (by kernel_rfl) (fun β ρ w' hM' => live w' (hM.later hM'.below)) ?_
    conv=>arg 5;whnf
    exact wp_back fun β ρ w' hM' => ⟨rfl, hM'.below⟩
   have hk : 0 ≤ O.k ∧ O.k ≤ 3 := by
    have q3 : ¬ O.k < 0 := of_decide_eq_false h3
    have q4 : ¬ O.k > 3 := of_decide_eq_false h4
    omega
   have D1 := fun w hM hA => do_any C O L a n c w hM hA (by omega) hd hG hT
   have W1 := fun w hM => whose O w hM (by unfold maxLen; omega)
   have hno := @pool_no C (L.map acP) O hpb hk
   have hlk := fun s L' (h : whoL O = (s, true)) h2 => @pool_look C (L.map acP) O s hpb hk h L' h2
   have GT := fun s w hA => rget11 0 L a n c s w hA (by omega)
   have hpf := fun s => getP_fit (fun x hx => (hA.2.2.2 x hx).1) s
   have hpg := fun s => getP_s (L.map acP) s
   have hgd := fun s => getP_good (fun x hx => (pck_iff.1 hpb).2.1 x hx) s
   have hhd := (pck_iff.1 hpb).2.2.2
   have hcf := (pck_iff.1 hpb).1
   have hhd2 : C.hd ≤ 1000 := by unfold cfgB at hcf; have := of_decide_eq_true hcf; omega
   have hsl0 : 0 ≤ slotsP (L.map acP) := by rw [← slotsA_P]; exact (slotsA_bd (fun x hx => (hA.2.2.2 x hx).1) (Nat.le_refl _)).1
   have SL := fun w hA => rslots L a n c w hA (by omega)
   rw [slotsA_P] at SL
   generalize hP : L.map acP = P at *
   generalize doP C P O = R at *
   generalize slotsP P = sl at *
   generalize hwh : whoL O = q at *
   obtain ⟨RP, Rr, Re⟩ := R
   obtain ⟨s, is⟩ := q
   conv=>arg 5;whnf
   refine meetAn (f := 16) (RP, Rr, Re) [] (by simp) rfl (by kernel_rfl) (fun β ρ w' hM' => D1 w' (hM.later hM'.below) (Mem.acs hA hM' fun φ hφ => hφ)) (fun x hx _ => ?_)
   conv=>arg 5;whnf
   refine meetc (f := 42) (v := .tuple #[.int .i64 s, .bool is]) rfl (by kernel_rfl) (fun β ρ w' hM' => W1 w' (hM.later hM'.below)) ?_
   cases is with
   | false =>
    obtain ⟨e1, e2⟩ := hno rfl
    have e1 : Rr.e ≠ 0 := e1
    have e2 : Re = [] := e2
    subst e2
    conv=>arg 5;whnf
    refine wp_g1 (fun _ => ?_) (fun h => absurd (show Rr.e = 0 by have : (!(Rr.e == 0)) = false := h; simpa using this) e1)
    conv=>arg 5;whnf
    refine meetc (f := 41) (v := .bool true) rfl (by kernel_rfl) (fun β ρ w' hM' => live w' (hM.later hM'.below)) ?_
    conv=>arg 5;whnf
    exact wp_back fun β ρ w' hM' => ⟨rfl, hM'.below⟩
   | true =>
    have hwb : 0 ≤ s ∧ s ≤ 255 := by
     have h9 := whoL_bd (O := O) (by rw [hwh])
     rw [hwh] at h9
     exact h9
    have hck := get_check hpb hwb
    have hp16 : (getP P s).2.2.length ≤ 16 := by
     have h8 := checkV_base hck
     unfold cfgB at hcf
     have h9 := of_decide_eq_true hcf
     omega
    have GT := GT s
    have hpf := hpf s
    have hps := hpg s
    have hgd := hgd s
    generalize hp : getP P s = p at *
    have L1 := fun u cu w hM (hu : Sl u p.2.2.length cu) hr => look.look C p u cu O w hM hu hr hpf.1 hpf.2 hd
    have hlen := (lookL_r C.per C.bp p O).1
    have hK2 := (lookL_r C.per C.bp p O).2.1
    have hKd := @lookL_d C.per C.bp p O hpf.2
    have hmay := @look_may C.per C.bp p O (by rw [hps]; exact hck)
    generalize hLk : lookL C.per C.bp p O = K at *
    have hlk := hlk s K rfl (by rw [hp]; exact hLk)
    conv=>arg 5;whnf
    refine wp_both ?_ ?_
    all_goals
     conv=>arg 5;whnf
     refine meetAc (f := 33) p (acsF a n L) (fun ψ h => (show ψ ∈ x.fs (RP, Rr, Re) ++ acsF a n L from List.mem_append_right _ h)) rfl (by kernel_rfl) (fun β ρ w' hM' => GT w' (Mem.acs hA hM' fun φ hφ => (show φ ∈ x.fs (RP, Rr, Re) ++ acsF a n L from List.mem_append_right _ hφ))) (fun u c_u h_u f_u => ?_)
     conv=>arg 5;whnf
     try refine wp_both ?_ ?_
     all_goals
      conv=>arg 5;whnf
      refine meetPl (f := 43) K [] (by simp) rfl (by kernel_rfl) (fun β ρ w' hM' => L1 u c_u w' (hM.later hM'.below) h_u (hM'.at_ (.head _))) (fun y hy _ => ?_)
      obtain ⟨x1, x2, x3, x4, x5⟩ := hx
      have x1 : x.L.map acP = RP := x1
      by_cases hcond : K.r.e = 0 ∧ C.hd - sl < K.dl
      ·obtain ⟨e1, e2⟩ := hlk.1 hcond
       cases e1
       have x1 : x.L.map acP = L.map acP := x1.trans hP.symm
       conv=>arg 5;whnf
       refine wp_g1 (fun _ => ?_) (fun h => absurd hcond.1 (by simpa using h))
       conv=>arg 5;whnf
       refine meetc (f := 26) (v := .int .i64 sl) rfl (by kernel_rfl) (fun β ρ w' hM' => SL w' (Mem.acs hA hM' fun φ hφ => (show φ ∈ y.fs K ++ (rowF (pt u p.2.2.length) (cellsL p.2.2) :: (x.fs (failP P 6) ++ acsF a n L)) from List.mem_append_right _ (.tail _ (List.mem_append_right _ hφ))))) ?_
       conv=>arg 5;whnf
       refine wp_must ⟨by omega, by omega⟩ ?_
       conv=>arg 5;whnf
       refine wp_br (fun _ => ?_) (fun h => absurd hcond.2 (of_decide_eq_false h))
       have FU := fun w hr => full K y w hy.2.2 hr (Nat.le_trans hlen hpf.1)
       generalize fullL K = F at *
       obtain ⟨Fe, Ft, Fl, Fn⟩ := F
       have e2 : Fe = 6 := e2
       subst e2
       conv=>arg 5;whnf
       refine meet1F (f := 44) (n := Fl.length) (v := fun a1 c1 => resV ⟨6, Ft, Fl, Fn⟩ a1 c1) (xs := cellsL Fl) rfl (by kernel_rfl) (fun β ρ w' hM' => FU w' (hM'.at_ (show rowF (pt y.ta K.r.l.length) (cellsL K.r.l) ∈ y.fs K ++ (rowF (pt u p.2.2.length) (cellsL p.2.2) :: (x.fs (failP P 6) ++ acsF a n L)) from .tail _ (.tail _ (.head _))))) (fun z c_z h_z f_z => ?_)
       conv=>arg 5;whnf
       refine wp_prim (.int .i64 6) (fun w => by kernel_rfl) ?_
       conv=>arg 5;whnf
       refine meetc (f := 18) (v := .bool true) rfl (by kernel_rfl) (fun β ρ w' hM' => raccounts x.L L x1 x.a x.L.length x.c a n c w' (acs_of hM' x3 rfl x2 fun φ hφ => (show φ ∈ _ :: (y.fs K ++ (rowF (pt u p.2.2.length) (cellsL p.2.2) :: (x.fs (failP P 6) ++ acsF a n L))) from .tail _ (List.mem_append_right _ (.tail _ (List.mem_append_left _ (.tail _ (.tail _ hφ))))))) (Mem.acs hA hM' fun φ hφ => (show φ ∈ _ :: (y.fs K ++ (rowF (pt u p.2.2.length) (cellsL p.2.2) :: (x.fs (failP P 6) ++ acsF a n L))) from .tail _ (List.mem_append_right _ (.tail _ (List.mem_append_right _ hφ)))))) ?_
       conv=>arg 5;whnf
       refine meetc (f := 41) (v := .bool true) rfl (by kernel_rfl) (fun β ρ w' hM' => live w' (hM.later hM'.below)) ?_
       conv=>arg 5;whnf
       exact wp_back fun β ρ w' hM' => ⟨rfl, hM'.below⟩
      ·have e1 := hlk.2 hcond
       by_cases hKe : K.r.e = 0
       ·skip
        conv=>arg 5;whnf
        refine wp_g1 (fun _ => ?_) (fun h => absurd hKe (by simpa using h))
        conv=>arg 5;whnf
        refine meetc (f := 26) (v := .int .i64 sl) rfl (by kernel_rfl) (fun β ρ w' hM' => SL w' (Mem.acs hA hM' fun φ hφ => (show φ ∈ y.fs K ++ (rowF (pt u p.2.2.length) (cellsL p.2.2) :: (x.fs (RP, Rr, Re) ++ acsF a n L)) from List.mem_append_right _ (.tail _ (List.mem_append_right _ hφ))))) ?_
        conv=>arg 5;whnf
        refine wp_must ⟨by omega, by omega⟩ ?_
        conv=>arg 5;whnf
        refine wp_br (fun h => absurd ⟨hKe, of_decide_eq_true h⟩ hcond) (fun _ => ?_)
        cases hch : K.ch with
        | false =>
         rw [hch, if_neg (by simp)] at e1
         cases e1
         have x1 : x.L.map acP = L.map acP := x1.trans hP.symm
         conv=>arg 5;whnf
         first | refine wp_br (fun h => by rw [hch] at h; cases h) (fun _ => ?_) | skip
         conv=>arg 5;whnf
         refine meetc (f := 19) (v := .bool true) rfl (by kernel_rfl) (fun β ρ w' hM' => rsameR K.r x.ta x.tc y.ta y.tc w' x4 (hM'.at_ (show rowF (pt x.ta K.r.l.length) (cellsL K.r.l) ∈ y.fs K ++ (rowF (pt u p.2.2.length) (cellsL p.2.2) :: (x.fs (P, K.r, K.ev) ++ acsF a n L)) from (List.mem_append_right _ (.tail _ (List.mem_append_left _ (.head _)))))) hy.2.2 (hM'.at_ (show rowF (pt y.ta K.r.l.length) (cellsL K.r.l) ∈ y.fs K ++ (rowF (pt u p.2.2.length) (cellsL p.2.2) :: (x.fs (P, K.r, K.ev) ++ acsF a n L)) from (List.mem_append_left _ (.tail _ (.tail _ (.head _))))))) ?_
         conv=>arg 5;whnf
         refine meetc (f := 20) (v := .bool true) rfl (by kernel_rfl) (fun β ρ w' hM' => revents K.ev x.ea x.ec y.ea y.ec w' x5 (hM'.at_ (show rowF (pt x.ea K.ev.length) (cellsE K.ev) ∈ y.fs K ++ (rowF (pt u p.2.2.length) (cellsL p.2.2) :: (x.fs (P, K.r, K.ev) ++ acsF a n L)) from (List.mem_append_right _ (.tail _ (List.mem_append_left _ (.tail _ (.head _))))))) hy.2.1 (hM'.at_ (show rowF (pt y.ea K.ev.length) (cellsE K.ev) ∈ y.fs K ++ (rowF (pt u p.2.2.length) (cellsL p.2.2) :: (x.fs (P, K.r, K.ev) ++ acsF a n L)) from (List.mem_append_left _ (.tail _ (.head _)))))) ?_
         conv=>arg 5;whnf
         refine meetc (f := 18) (v := .bool true) rfl (by kernel_rfl) (fun β ρ w' hM' => raccounts x.L L x1 x.a x.L.length x.c a n c w' (acs_of hM' x3 rfl x2 fun φ hφ => (show φ ∈ y.fs K ++ (rowF (pt u p.2.2.length) (cellsL p.2.2) :: (x.fs (P, K.r, K.ev) ++ acsF a n L)) from List.mem_append_right _ (.tail _ (List.mem_append_left _ (.tail _ (.tail _ hφ)))))) (Mem.acs hA hM' fun φ hφ => (show φ ∈ y.fs K ++ (rowF (pt u p.2.2.length) (cellsL p.2.2) :: (x.fs (P, K.r, K.ev) ++ acsF a n L)) from List.mem_append_right _ (.tail _ (List.mem_append_right _ hφ))))) ?_
         conv=>arg 5;whnf
         refine meetc (f := 41) (v := .bool true) rfl (by kernel_rfl) (fun β ρ w' hM' => live w' (hM.later hM'.below)) ?_
         conv=>arg 5;whnf
         exact wp_back fun β ρ w' hM' => ⟨rfl, hM'.below⟩
        | true =>
         rw [hch, if_pos rfl] at e1
         cases e1
         conv=>arg 5;whnf
         first | refine wp_br (fun _ => ?_) (fun h => by rw [hch] at h; cases h) | skip
         obtain ⟨m1, m2, m3, m4⟩ := hmay hKe hch
         have hkb : 0 ≤ K.b := Int.le_trans hgd.1 m4
         have hxf : (⟨K.s, K.b, y.a, K.l.length, y.c, K.l⟩ : Ac).fit := ⟨hy.1, rfl, by show K.l.length ≤ 1000000; omega, hKd⟩
         have ST := fun w hA => rset11 L (⟨K.s, K.b, y.a, K.l.length, y.c, K.l⟩ : Ac) 0 a n c w hA (by omega) hkb
         have hSm := rsV_acs (⟨K.s, K.b, y.a, K.l.length, y.c, K.l⟩ : Ac) L rfl
         rw [hP] at hSm
         have hSx : ∀ z ∈ rsV keyA (⟨K.s, K.b, y.a, K.l.length, y.c, K.l⟩ : Ac) (emptyV K.b K.l.length) L, z ∈ L ∨ z = (⟨K.s, K.b, y.a, K.l.length, y.c, K.l⟩ : Ac) := fun z hz => rsV_mem hz
         generalize rsV keyA (⟨K.s, K.b, y.a, K.l.length, y.c, K.l⟩ : Ac) (emptyV K.b K.l.length) L = S at *
         conv=>arg 5;whnf
         refine meet1F (f := 37) (n := S.length) (v := fun a1 c1 => shV a1 S.length c1 (nextV 0)) (xs := cellsA S) rfl (by kernel_rfl) (fun β ρ w' hM' => ST w' (Mem.acs hA hM' fun φ hφ => (show φ ∈ y.fs K ++ (rowF (pt u p.2.2.length) (cellsL p.2.2) :: (x.fs (setP P (K.s, K.b, K.l), K.r, K.ev) ++ acsF a n L)) from List.mem_append_right _ (.tail _ (List.mem_append_right _ hφ))))) (fun v c_v h_v f_v => ?_)
         conv=>arg 5;whnf
         refine wp_prim (.slice v S.length c_v) (fun w => by kernel_rfl) ?_
         conv=>arg 5;whnf
         refine meetc (f := 19) (v := .bool true) rfl (by kernel_rfl) (fun β ρ w' hM' => rsameR K.r x.ta x.tc y.ta y.tc w' x4 (hM'.at_ (show rowF (pt x.ta K.r.l.length) (cellsL K.r.l) ∈ rowF (pt v S.length) (cellsA S) :: (y.fs K ++ (rowF (pt u p.2.2.length) (cellsL p.2.2) :: (x.fs (setP P (K.s, K.b, K.l), K.r, K.ev) ++ acsF a n L))) from .tail _ (List.mem_append_right _ (.tail _ (List.mem_append_left _ (.head _)))))) hy.2.2 (hM'.at_ (show rowF (pt y.ta K.r.l.length) (cellsL K.r.l) ∈ rowF (pt v S.length) (cellsA S) :: (y.fs K ++ (rowF (pt u p.2.2.length) (cellsL p.2.2) :: (x.fs (setP P (K.s, K.b, K.l), K.r, K.ev) ++ acsF a n L))) from .tail _ (List.mem_append_left _ (.tail _ (.tail _ (.head _))))))) ?_
         conv=>arg 5;whnf
         refine meetc (f := 20) (v := .bool true) rfl (by kernel_rfl) (fun β ρ w' hM' => revents K.ev x.ea x.ec y.ea y.ec w' x5 (hM'.at_ (show rowF (pt x.ea K.ev.length) (cellsE K.ev) ∈ rowF (pt v S.length) (cellsA S) :: (y.fs K ++ (rowF (pt u p.2.2.length) (cellsL p.2.2) :: (x.fs (setP P (K.s, K.b, K.l), K.r, K.ev) ++ acsF a n L))) from .tail _ (List.mem_append_right _ (.tail _ (List.mem_append_left _ (.tail _ (.head _))))))) hy.2.1 (hM'.at_ (show rowF (pt y.ea K.ev.length) (cellsE K.ev) ∈ rowF (pt v S.length) (cellsA S) :: (y.fs K ++ (rowF (pt u p.2.2.length) (cellsL p.2.2) :: (x.fs (setP P (K.s, K.b, K.l), K.r, K.ev) ++ acsF a n L))) from .tail _ (List.mem_append_left _ (.tail _ (.head _)))))) ?_
         conv=>arg 5;whnf
         refine meetc (f := 18) (v := .bool true) rfl (by kernel_rfl) (fun β ρ w' hM' => raccounts x.L S (x1.trans hSm.symm) x.a x.L.length x.c v S.length c_v w' (acs_of hM' x3 rfl x2 fun φ hφ => (show φ ∈ rowF (pt v S.length) (cellsA S) :: (y.fs K ++ (rowF (pt u p.2.2.length) (cellsL p.2.2) :: (x.fs (setP P (K.s, K.b, K.l), K.r, K.ev) ++ acsF a n L))) from .tail _ (List.mem_append_right _ (.tail _ (List.mem_append_left _ (.tail _ (.tail _ hφ))))))) ⟨h_v, rfl, hM'.at_ (show rowF (pt v S.length) (cellsA S) ∈ rowF (pt v S.length) (cellsA S) :: (y.fs K ++ (rowF (pt u p.2.2.length) (cellsL p.2.2) :: (x.fs (setP P (K.s, K.b, K.l), K.r, K.ev) ++ acsF a n L))) from .head _), fun z hz => (hSx z hz).elim (fun h => ⟨(hA.2.2.2 z h).1, hM'.at_ (show acF z ∈ rowF (pt v S.length) (cellsA S) :: (y.fs K ++ (rowF (pt u p.2.2.length) (cellsL p.2.2) :: (x.fs (setP P (K.s, K.b, K.l), K.r, K.ev) ++ acsF a n L))) from .tail _ (List.mem_append_right _ (.tail _ (List.mem_append_right _ (.tail _ (List.mem_map.2 ⟨z, h, rfl⟩))))))⟩) (fun h => by subst h; exact ⟨hxf, hM'.at_ (show rowF (pt y.a K.l.length) (cellsL K.l) ∈ rowF (pt v S.length) (cellsA S) :: (y.fs K ++ (rowF (pt u p.2.2.length) (cellsL p.2.2) :: (x.fs (setP P (K.s, K.b, K.l), K.r, K.ev) ++ acsF a n L))) from .tail _ (List.mem_append_left _ (.head _)))⟩)⟩) ?_
         conv=>arg 5;whnf
         refine meetc (f := 41) (v := .bool true) rfl (by kernel_rfl) (fun β ρ w' hM' => live w' (hM.later hM'.below)) ?_
         conv=>arg 5;whnf
         exact wp_back fun β ρ w' hM' => ⟨rfl, hM'.below⟩
       ·have hfl : ∃ e, e ≠ 0 ∧ K = failL e := by
         have := @look_err C.per C.bp p O (by rw [hLk]; exact hKe)
         rw [hLk] at this
         exact this
        obtain ⟨e, he, rfl⟩ := hfl
        have e1 : (RP, Rr, Re) = (P, (⟨e, tx0, [], 0⟩ : Rq), []) := e1
        cases e1
        have x1 : x.L.map acP = L.map acP := x1.trans hP.symm
        conv=>arg 5;whnf
        refine wp_g1 (fun h => absurd (show e = 0 by have h9 : (e == 0) = true := h; simpa using h9) he) (fun _ => ?_)
        conv=>arg 5;whnf
        refine meetc (f := 19) (v := .bool true) rfl (by kernel_rfl) (fun β ρ w' hM' => rsameR ⟨e, tx0, [], 0⟩ x.ta x.tc y.ta y.tc w' x4 (hM'.at_ (show rowF (pt x.ta 0) (cellsL []) ∈ y.fs (failL e) ++ (rowF (pt u p.2.2.length) (cellsL p.2.2) :: (x.fs (P, ⟨e, tx0, [], 0⟩, []) ++ acsF a n L)) from List.mem_append_right _ (.tail _ (List.mem_append_left _ (.head _))))) hy.2.2 (hM'.at_ (show rowF (pt y.ta 0) (cellsL []) ∈ y.fs (failL e) ++ (rowF (pt u p.2.2.length) (cellsL p.2.2) :: (x.fs (P, ⟨e, tx0, [], 0⟩, []) ++ acsF a n L)) from List.mem_append_left _ (.tail _ (.tail _ (.head _)))))) ?_
        conv=>arg 5;whnf
        refine meetc (f := 20) (v := .bool true) rfl (by kernel_rfl) (fun β ρ w' hM' => revents [] x.ea x.ec y.ea y.ec w' x5 (hM'.at_ (show rowF (pt x.ea 0) (cellsE []) ∈ y.fs (failL e) ++ (rowF (pt u p.2.2.length) (cellsL p.2.2) :: (x.fs (P, ⟨e, tx0, [], 0⟩, []) ++ acsF a n L)) from List.mem_append_right _ (.tail _ (List.mem_append_left _ (.tail _ (.head _)))))) hy.2.1 (hM'.at_ (show rowF (pt y.ea 0) (cellsE []) ∈ y.fs (failL e) ++ (rowF (pt u p.2.2.length) (cellsL p.2.2) :: (x.fs (P, ⟨e, tx0, [], 0⟩, []) ++ acsF a n L)) from List.mem_append_left _ (.tail _ (.head _))))) ?_
        conv=>arg 5;whnf
        refine meetc (f := 18) (v := .bool true) rfl (by kernel_rfl) (fun β ρ w' hM' => raccounts x.L L x1 x.a x.L.length x.c a n c w' (acs_of hM' x3 rfl x2 fun φ hφ => (show φ ∈ y.fs (failL e) ++ (rowF (pt u p.2.2.length) (cellsL p.2.2) :: (x.fs (P, ⟨e, tx0, [], 0⟩, []) ++ acsF a n L)) from List.mem_append_right _ (.tail _ (List.mem_append_left _ (.tail _ (.tail _ hφ)))))) (Mem.acs hA hM' fun φ hφ => (show φ ∈ y.fs (failL e) ++ (rowF (pt u p.2.2.length) (cellsL p.2.2) :: (x.fs (P, ⟨e, tx0, [], 0⟩, []) ++ acsF a n L)) from List.mem_append_right _ (.tail _ (List.mem_append_right _ hφ))))) ?_
        conv=>arg 5;whnf
        refine meetc (f := 41) (v := .bool true) rfl (by kernel_rfl) (fun β ρ w' hM' => live w' (hM.later hM'.below)) ?_
        conv=>arg 5;whnf
        exact wp_back fun β ρ w' hM' => ⟨rfl, hM'.below⟩
end Go.Proofs.YtofpmnkkimgkfaaGreatDoor.lookPool
namespace Go.Proofs.YtofpmnkkimgkfaaGreatDoor.lookPool
open Go.ChangeShapes Go.WideShapes Go.ChangeAt Go.RowKit
open Go.ChangeMaps (open_string shut_string)
theorem own : ownKnob Tryz.prog.godebug = none := by kernel_rfl
theorem laidOut : laidOutB Tryz.prog = true := by kernel_rfl
noncomputable def laidWorld (os : Os) : World :=
 let w0 := World.holding Tryz.prog os ⟨#[], #[], []⟩
 { w0 with heap := w0.heap.modify 0 fun
   | .cells _ t frozen => .cells #[.int .i64 255, .int .i64 4294967295, .int .i64 1099511627776, .int .i64 1099511627776, .int .i64 1073741824] t frozen
   | o => o }
theorem laid_met (os : Os) (args : Array Value) : laidMet Tryz.prog Rows.lookPoolRow.laid ((laidWorld os).forCall (fun _ _ => 0) ⟨#[], args, []⟩).memory :=
 laidMet_of_run (ps := [.cell 0 0, .cell 0 1, .cell 0 2, .cell 0 3, .cell 0 4]) 8 (by kernel_rfl) (by kernel_rfl) (by kernel_rfl)
theorem lifted (os : Os) (started : os.Started) (H : Type) (enc : TypeId × Value → H) :
  ReturnsInHanded {} Tryz.checked os 9 .any (fun w args => (Rows.lookPoolSpec.pre enc Tryz.prog Tryz.f9 Rows.lookPoolRow.domain false w args ∧ laidMet Tryz.prog Rows.lookPoolRow.laid w) ∧ sizedMet enc Tryz.prog Tryz.f9 (OpenSpec.ofChange Rows.lookPoolSpec) false w args) (Rows.lookPoolSpec.post enc Tryz.prog Tryz.f9 false true false false) := by
 refine returnsInHanded_of_change_and (C := Tryz.checked) (X := fun w _ => laidMet Tryz.prog Rows.lookPoolRow.laid w) (fun _ _ _ hh h => h.of_heap hh) own started (by kernel_rfl) Tryz.func9
  (ChangeSpec.witness_at (enc := enc) (C := Tryz.checked) (os := os) (X := fun w _ => laidMet Tryz.prog Rows.lookPoolRow.laid w) false (laidWorld os) #[.agg #[.int .i64 0, .int .i64 0, .int .i64 0, .int .i64 0, .int .i64 0, .int .i64 0, .int .i64 0, .int .i64 0], .slice none 0 0, .agg #[.int .i64 0, .int .i64 0, .int .i64 0, .int .i64 0, .string ByteArray.empty]] 8 rfl (by kernel_rfl) (by kernel_rfl) (by kernel_rfl) (by kernel_rfl) (by kernel_rfl) (laid_met os _)) ?_
 intro W base args ds gs before hval0 hW hcnd _ hL _
 have hval : ∀ (j : Nat) t v, Tryz.f9.params[j]? = some t → args[j]? = some v → Value.okWide Tryz.prog W .any base t v := hval0
 have hW' := hW
 obtain ⟨p, q, hA0, hV, rfl, hfz, hnd⟩ := hW
 have hA : DataW.TrodAll enc Tryz.prog W 0 (fun _ => true) true Tryz.f9.params.toList args.toList ds p := hA0
 rw [Tryz.params9] at hA hval
 obtain ⟨v0, vs0, d0, ds0, p0, q0, hargs, rfl, rfl, h0, r0⟩ := trodAll_cons hA
 obtain ⟨v1, vs1, d1, ds1, p1, q1, rfl, rfl, rfl, h1, r1⟩ := trodAll_cons r0
 obtain ⟨v2, vs2, d2, ds2, p2, q2, rfl, rfl, rfl, h2, r2⟩ := trodAll_cons r1
 obtain ⟨rfl, rfl, rfl⟩ := trodAll_nil r2
 obtain rfl : args = #[v0, v1, v2] := by cases args; simp_all
 obtain ⟨rfl, rfl⟩ := trodVars_none hV
 have k0 := h0
 have lt0 : ∀ x ∈ p0, x.block < W.heap.size := by obtain ⟨m, hm⟩ := k0; exact DataW.trod_lt m _ _ _ hm
 obtain ⟨C0, rfl, f0⟩ := pool.open_cfg (hval 0 23 v0 rfl rfl) h0
 have k1 := h1
 have lt1 : ∀ x ∈ p1, x.block < W.heap.size := by obtain ⟨m, hm⟩ := k1; exact DataW.trod_lt m _ _ _ hm
 obtain ⟨a1, n1, c1, l1, rfl, f1⟩ := greedy.open_accs (hval 1 24 v1 rfl rfl) h1
 have k2 := h2
 have lt2 : ∀ x ∈ p2, x.block < W.heap.size := by obtain ⟨m, hm⟩ := k2; exact DataW.trod_lt m _ _ _ hm
 obtain ⟨O2, rfl, f2⟩ := pool.open_op (hval 2 26 v2 rfl rfl) h2
 clear hA0 hval0
 have hM : txn.Most W := txn.most_of_laid hL
 refine (walk C0 a1 n1 c1 l1 O2 W hM f0 f1 f2).mono fun e W' ⟨he, bel⟩ => ?_
 subst he
 exact ⟨_, rfl, _, _, _, [], _, [], hW', trodAll_mk1 (shut_bool Tryz.underlying4 _), (trodAll_cons_mk (Below.trod laidOut (by kernel_rfl) (of_decide_eq_true (by kernel_rfl)) k0 bel lt0) (trodAll_cons_mk (Below.trod laidOut (by kernel_rfl) (of_decide_eq_true (by kernel_rfl)) k1 bel lt1) (trodAll_cons_mk (Below.trod laidOut (by kernel_rfl) (of_decide_eq_true (by kernel_rfl)) k2 bel lt2) trodAll_mk0))), rfl, bel.frame _, fun h => by cases h⟩
theorem over : Rows.LookPoolSaid :=
 OpenClaim.holds_of_wide 9 Tryz.f9 rfl rfl rfl rfl rfl rfl rfl ⟨rfl, rfl, rfl, rfl, rfl⟩ rfl rfl rfl rfl rfl (by kernel_rfl) Tryz.func9 (by kernel_rfl)
  (of_decide_eq_true (by kernel_rfl)) (by unfold Func.isWrapper; first | (rw [if_pos (by decide +kernel)]; kernel_rfl) | (rw [if_neg (by decide +kernel)]; exact ⟨rfl, rfl⟩))
  (fun os started H enc _ => lifted os started H enc)
theorem proved : Rows.LookPoolCardSaid :=
 Claim7.holds_tied_plain_at .later [] [.data] true (true, "d7a6610ef8b400b1696ea98ccecb2799c1cff8b5abd6bf6f50ead7769ba5ae9c") false
  over (fun _ h => by cases h) (by kernel_rfl) (fun _ h => by cases h) lookPool_row_tie rfl ⟨rfl, rfl⟩ (by kernel_rfl) rfl
  (fun f fn hf hfn => by
   obtain rfl : f = 9 := (Option.some.inj ((show Tryz.prog.funcNamed "hopper/hopperlaw15.LookPool" = some 9 by kernel_rfl).symm.trans hf)).symm
   obtain rfl : fn = Tryz.f9 := (Option.some.inj (Tryz.func9.symm.trans hfn)).symm
   exact ⟨by kernel_rfl, fun j t ht => by
    rw [Tryz.params9] at ht
    match j, ht with
    | 0, ht =>
     obtain rfl : t = 23 := by simpa using ht.symm
     exact (show Tryz.prog.wantsStandIn 23 = false by kernel_rfl)
    | 1, ht =>
     obtain rfl : t = 24 := by simpa using ht.symm
     exact (show Tryz.prog.wantsStandIn 24 = false by kernel_rfl)
    | 2, ht =>
     obtain rfl : t = 26 := by simpa using ht.symm
     exact (show Tryz.prog.wantsStandIn 26 = false by kernel_rfl)
    | j + 3, ht => simp at ht⟩)
  (by kernel_rfl)
#print axioms proved
end Go.Proofs.YtofpmnkkimgkfaaGreatDoor.lookPool
