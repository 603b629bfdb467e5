/- hopper/hopperlaw13.PoolMay answers true at every input, and every argument reads behind the call as it read before; hopper/txn.most holds what the program's text lays there: the card ties it. No other condition. -/
import Derived.Test.YtofpmnkkimgkfaaGreatDoorRows
import Derived.Test.YtofpmnkkimgkfaaGreatDoorKTxn
import Derived.OpenShut
import Derived.ChangeOld
import Derived.LaidLaws
import Derived.Test.YtofpmnkkimgkfaaGreatDoorKPoAll
import Derived.Test.YtofpmnkkimgkfaaGreatDoorCards
import Derived.Test.YtofpmnkkimgkfaaGreatDoorTie
import Derived.WalkKit
import Derived.ProofKit
import Derived.ShutString
import Derived.Below
import Derived.Handed
import Derived.SevenTiedAt
set_option linter.all false
set_option maxHeartbeats 4000000
set_option maxRecDepth 100000
namespace Go.Proofs.YtofpmnkkimgkfaaGreatDoor.txn
open Go.RowKit Go.ChangeShapes Go.WideShapes
theorem most_of_laid {W : World} (h : laidMet Tryz.prog [("hopper/txn.most", Rows.laid_hopper_txn_most)] W) : Most W := by
 obtain ⟨ps, ⟨g, t, cs, fuel, p, q, hg, ht, hvar, hd, _, _⟩, _⟩ := h
 obtain rfl := Option.some.inj ((show Tryz.prog.globalNamed "hopper/txn.most" = some 0 by kernel_rfl).symm.trans hg)
 obtain rfl := Option.some.inj ((show (Tryz.prog.globals[0]?).map (·.type) = some 190 by kernel_rfl).symm.trans ht)
 obtain ⟨xs, m, _, hx, hlen, hn, hi⟩ := DataW.trod_array Tryz.underlying190 hd
 have h5 : cs.toList.length = 5 := hlen.trans (by kernel_rfl)
 obtain ⟨l⟩ := cs
 match l, h5 with
 | [c0, c1, c2, c3, c4], _ =>
  match xs, hn with
  | [y0, y1, y2, y3, y4], _ =>
   have k3 : Tryz.prog.cellsOf 3 = 1 := by kernel_rfl
   have g0 := hi 0 (by omega)
   have g1 := hi 1 (by omega)
   have g2 := hi 2 (by omega)
   have g3 := hi 3 (by omega)
   have g4 := hi 4 (by omega)
   simp [k3] at g0 g1 g2 g3 g4
   obtain ⟨a0, e0, f0, _⟩ := DataW.trod_int Tryz.underlying3 g0
   obtain ⟨a1, e1, f1, _⟩ := DataW.trod_int Tryz.underlying3 g1
   obtain ⟨a2, e2, f2, _⟩ := DataW.trod_int Tryz.underlying3 g2
   obtain ⟨a3, e3, f3, _⟩ := DataW.trod_int Tryz.underlying3 g3
   obtain ⟨a4, e4, f4, _⟩ := DataW.trod_int Tryz.underlying3 g4
   simp at e0 e1 e2 e3 e4
   subst e0 e1 e2 e3 e4 f0 f1 f2 f3 f4
   simp [Rows.laid_hopper_txn_most] at hx
   obtain ⟨⟨r0, r1, r2, r3, r4⟩, _⟩ := hx
   subst r0 r1 r2 r3 r4
   have z0 := World.var?_cell hg hvar 0
   have z1 := World.var?_cell hg hvar 1
   have z2 := World.var?_cell hg hvar 2
   have z3 := World.var?_cell hg hvar 3
   have z4 := World.var?_cell hg hvar 4
   have hz : 0 < W.heap.size := by
    rcases Nat.eq_zero_or_pos W.heap.size with h0 | h0
    ·exfalso
     simp [World.cell?, Array.getElem?_eq_none (show W.heap.size ≤ 0 by omega)] at z0
    ·exact h0
   exact ⟨by simpa using z0, by simpa using z1, by simpa using z2, by simpa using z3, by simpa using z4, hz⟩
end Go.Proofs.YtofpmnkkimgkfaaGreatDoor.txn
namespace Go.Proofs.YtofpmnkkimgkfaaGreatDoor.poolMay
open Go.RowKit Sx txn queue greedy shard pool
theorem dropP_err {P : List PA} {s v : Int} (h : (dropP P s v).2.1.e ≠ 0) : (dropP P s v).1 = P ∧ (dropP P s v).2.2 = [] := by
 unfold dropP at h ⊢
 split
 ·rename_i h1; rw [if_pos h1] at h; exact absurd rfl h
 ·exact ⟨rfl, rfl⟩
theorem addR_err {C : Cf} {P : List PA} {d : ByteArray} (h : (addR C P d).2.1.e ≠ 0) : (addR C P d).1 = P ∧ (addR C P d).2.2 = [] := by
 cases hD : dec d.data.toList with
 | none => rw [addR_none hD]; exact ⟨rfl, rfl⟩
 | some t =>
  rw [addR_some hD] at h ⊢
  split
  ·rename_i h1
   rw [if_pos h1] at h
   split
   ·exact ⟨rfl, rfl⟩
   ·rename_i h2; rw [if_neg h2] at h; exact absurd rfl h
  ·exact ⟨rfl, rfl⟩
theorem advR_err {P : List PA} {s y : Int} (h : (advR P s y).2.1.e ≠ 0) : (advR P s y).1 = P ∧ (advR P s y).2.2 = [] := by
 unfold advR at h ⊢
 split
 ·rename_i h1
  rw [if_pos h1] at h
  split
  ·rename_i h2; rw [if_pos h2] at h; exact absurd rfl h
  ·exact ⟨rfl, rfl⟩
 ·exact ⟨rfl, rfl⟩
theorem getR_same (P : List PA) (s v : Int) : (getR P s v).1 = P ∧ (getR P s v).2.2 = [] := by
 unfold getR; split <;> exact ⟨rfl, rfl⟩
theorem doR_err {C : Cf} {P : List PA} {wt : Tx} {tl : List Tx} {O : Oq} (h : (doR C P wt tl O).2.1.e ≠ 0 ∨ (3 ≤ O.k ∧ O.k ≤ 5)) : (doR C P wt tl O).1 = P ∧ (doR C P wt tl O).2.2 = [] := by
 cases hc : pckB C P with
 | false => rw [doR_no hc]; exact ⟨rfl, rfl⟩
 | true =>
  have hR : doR C P wt tl O = (if O.k = 0 then addR C P O.d else if O.k = 1 then dropP P O.s O.v else if O.k = 2 then advR P O.s O.v else if O.k = 3 then getR P O.s O.v
  else if O.k = 4 then (P, ⟨0, tx0, [], slotsP P⟩, []) else if O.k = 5 then (P, ⟨0, tx0, tl, 0⟩, []) else if O.k = 6 then evictR C P wt else failP P 1) := if_pos hc
  rw [hR] at h ⊢
  by_cases h0 : O.k = 0
  ·rw [if_pos h0] at h ⊢; exact addR_err (h.resolve_right (by omega))
  rw [if_neg h0] at h ⊢
  by_cases h1 : O.k = 1
  ·rw [if_pos h1] at h ⊢; exact dropP_err (h.resolve_right (by omega))
  rw [if_neg h1] at h ⊢
  by_cases h2 : O.k = 2
  ·rw [if_pos h2] at h ⊢; exact advR_err (h.resolve_right (by omega))
  rw [if_neg h2] at h ⊢
  by_cases h3 : O.k = 3
  ·rw [if_pos h3]; exact getR_same _ _ _
  rw [if_neg h3] at h ⊢
  by_cases h4 : O.k = 4
  ·rw [if_pos h4]; exact ⟨rfl, rfl⟩
  rw [if_neg h4] at h ⊢
  by_cases h5 : O.k = 5
  ·rw [if_pos h5]; exact ⟨rfl, rfl⟩
  rw [if_neg h5] at h ⊢
  by_cases h6 : O.k = 6
  ·rw [if_pos h6] at h ⊢
   have h := h.resolve_right (by omega)
   unfold evictR at h ⊢
   split
   ·exact ⟨rfl, rfl⟩
   ·rename_i h7; rw [if_neg h7] at h; exact dropP_err h
  rw [if_neg h6]
  exact ⟨rfl, rfl⟩
theorem doR_tpl {C : Cf} {P : List PA} {wt : Tx} {tl : List Tx} {O : Oq} (hc : pckB C P = true) (h : O.k = 5) : (doR C P wt tl O).2.1.l = tl := by
 unfold doR
 rw [if_pos hc, if_neg (by omega), if_neg (by omega), if_neg (by omega), if_neg (by omega), if_neg (by omega), if_pos h]
theorem walk (C : Cf) (a : Option Addr) (n c : Nat) (L : List Ac) (O : Oq) (w : World) (hM : Most w) (hC : True) (hI : AccsIn w a n c L) (hO : O.fits) :
  Calls Tryz.prog 5 (List.toArray [C.val, .slice a n c, O.val]) w fun e w' => e = .returned (.bool true) ∧ Below w.heap.size w w' := by
 refine calls_of_exec Sxs.env_ok.keeps.soon_ Tryz.func5 rfl [(4, (line [0, 1, 2, 3, 4, 5, 7, 8, 6, 9, 10, 11, 12, 13, 14, 15, 16, 17, 18, 19, 20, 21, 22, 23, 24, 25, 26], [])), (8, (line [0, 1, 2, 3, 4, 5, 6, 7, 8, 9, 10, 11, 12, 13, 14, 15], []))] (schedQ_ok _ _ (by kernel_rfl)) (acsF a n L) hI.facts ?_
 have FW := fun w' (hM' : AccsIn w' a n c L) => fewW L 20 a n c w' hM'
 generalize hfb : (fewA L && decide ((n : Int) ≤ 20)) = fb at *
 conv=>arg 5;whnf
 refine meetc (f := 14) (v := .bool fb) rfl (by kernel_rfl) (fun β ρ w' hM' => FW w' (hI.mem hM' fun φ hφ => hφ)) ?_
 cases fb with
 | false =>
  conv=>arg 5;whnf
  refine meetc (f := 15) (v := .bool true) rfl (by kernel_rfl) (fun β ρ w' hM' => live w' (hM.later hM'.below)) ?_
  conv=>arg 5;whnf
  exact wp_back fun β ρ w' hM' => ⟨rfl, hM'.below⟩
 | true =>
  simp only [Bool.and_eq_true, decide_eq_true_eq] at hfb
  obtain ⟨hA, hx20⟩ := hI.few hfb.1
  have hn := hI.2.1
  have hn20 : n ≤ 20 := by omega
  have P1 := fun w hM hA => pcheck C L a n c w hM hA (by omega)
  conv=>arg 5;whnf
  refine wp_g0 (fun h1 => ?_) (fun h1 => ?_)
  rotate_left
  ·(conv => arg 5; whnf)
   refine meetc (f := 15) (v := .bool true) rfl (by kernel_rfl) (fun β ρ w' hM' => live w' (hM.later hM'.below)) ?_
   conv=>arg 5;whnf
   exact wp_back fun β ρ w' hM' => ⟨rfl, hM'.below⟩
  have h2 : ¬ (500 : Int) < (O.d.size : Int) := of_decide_eq_false h1
  have hd : O.d.size ≤ 1000000 := by omega
  have hG : -9223372036854775808 ≤ O.g ∧ O.g ≤ 9223372036854775807 := by have := hO.2.2.2.1; unfold Fits at this; omega
  have hT : (tplP (L.map acP) O.g).length ≤ 1000000 := Nat.le_trans (tplP_le (fun x hx => by obtain ⟨y, hy, rfl⟩ := List.mem_map.1 hx; exact hx20 y hy) (by rw [List.length_map]; omega) O.g) (by omega)
  cases hpb : pckB C (L.map acP) with
  | false =>
   rw [hpb] at P1
   conv=>arg 5;whnf
   refine meetc (f := 23) (v := .bool false) rfl (by kernel_rfl) (fun β ρ w' hM' => P1 w' (hM.later hM'.below) (Mem.acs hA hM' fun φ hφ => hφ)) ?_
   conv=>arg 5;whnf
   refine meetc (f := 15) (v := .bool true) rfl (by kernel_rfl) (fun β ρ w' hM' => live w' (hM.later hM'.below)) ?_
   conv=>arg 5;whnf
   exact wp_back fun β ρ w' hM' => ⟨rfl, hM'.below⟩
  | true =>
   rw [hpb] at P1
   conv=>arg 5;whnf
   refine meetc (f := 23) (v := .bool true) rfl (by kernel_rfl) (fun β ρ w' hM' => P1 w' (hM.later hM'.below) (Mem.acs hA hM' fun φ hφ => hφ)) ?_
   have D1 := fun w hM hA => do_any C O L a n c w hM hA (by omega) hd hG hT
   have e1 := fun h => @doR_err C (L.map acP) (worP (L.map acP)) (tplP (L.map acP) O.g) O h
   have e2 := fun h => @doR_tpl C (L.map acP) (worP (L.map acP)) (tplP (L.map acP) O.g) O hpb h
   have e3 := pck_iff.1 (doR_ok hpb (worP (L.map acP)) (tplP (L.map acP) O.g) O)
   have e4 := doR_ok hpb (worP (L.map acP)) (tplP (L.map acP) O.g) O
   have e5 := doR_len C (L.map acP) (worP (L.map acP)) (tplP (L.map acP) O.g) O
   rw [List.length_map] at e5
   have TM := fun w hM hA => greedy.rtemplate L O.g a n c w hM hA (by omega) hG (by rw [tpl_P]; exact hT)
   rw [tpl_P] at TM
   have hdo : doP C (L.map acP) O = doR C (L.map acP) (worP (L.map acP)) (tplP (L.map acP) O.g) O := rfl
   rw [← hdo] at e1 e2 e3 e4 e5
   clear hdo
   generalize tplP (L.map acP) O.g = tl at *
   generalize doP C (L.map acP) O = R at *
   obtain ⟨RP, Rr, Re⟩ := R
   have e1 : Rr.e ≠ 0 ∨ (3 ≤ O.k ∧ O.k ≤ 5) → RP = L.map acP ∧ Re = [] := e1
   have e2 : O.k = 5 → Rr.l = tl := e2
   have e4 : pckB C RP = true := e4
   have e5 : RP.length ≤ L.length + 1 := e5
   conv=>arg 5;whnf
   refine meetAn (f := 16) (RP, Rr, Re) [] (by simp) rfl (by kernel_rfl) (fun β ρ w' hM' => D1 w' (hM.later hM'.below) (Mem.acs hA hM' fun φ hφ => hφ)) (fun x hx _ => ?_)
   obtain ⟨x1, x2, x3, x4, x5⟩ := hx
   have x1 : x.L.map acP = RP := x1
   have x4 : Sl x.ta Rr.l.length x.tc := x4
   have x5 : Sl x.ea Re.length x.ec := x5
   have xl : x.L.length ≤ 21 := by rw [← x1, List.length_map] at e5; omega
   have hsl : slotsA x.L ≤ C.hd := by rw [slotsA_P, x1]; exact e3.2.2.2
   have Q1 := fun w hM hA => pcheck C x.L x.a x.L.length x.c w hM hA (by omega)
   rw [x1, e4] at Q1
   have Q2 := fun w hM hA => pslots x.L x.a x.L.length x.c w hM hA (by omega)
   generalize slotsA x.L = sl at *
   conv=>arg 5;whnf
   refine meetc (f := 23) (v := .bool true) rfl (by kernel_rfl) (fun β ρ w' hM' => Q1 w' (hM.later hM'.below) (acs_of hM' x3 rfl x2 fun φ hφ => (show φ ∈ x.fs (RP, Rr, Re) ++ acsF a n L from List.mem_append_left _ (.tail _ (.tail _ hφ))))) ?_
   conv=>arg 5;whnf
   refine meetc (f := 25) (v := .int .i64 sl) rfl (by kernel_rfl) (fun β ρ w' hM' => Q2 w' (hM.later hM'.below) (acs_of hM' x3 rfl x2 fun φ hφ => (show φ ∈ x.fs (RP, Rr, Re) ++ acsF a n L from List.mem_append_left _ (.tail _ (.tail _ hφ))))) ?_
   conv=>arg 5;whnf
   refine wp_g0 (fun _ => ?_) (fun h => by have h9 : C.hd < sl := of_decide_eq_true h; omega)
   by_cases hS : Rr.e ≠ 0 ∨ (3 ≤ O.k ∧ O.k ≤ 5)
   ·obtain ⟨rfl, rfl⟩ := e1 hS
    conv=>arg 5;whnf
    refine wp_g1 (fun h3 => ?_) (fun h3 => ?_)
    ·skip
     conv=>arg 5;whnf
     refine meetc (f := 18) (v := .bool true) rfl (by kernel_rfl) (fun β ρ w' hM' => raccounts x.L L x1 x.a x.L.length x.c a n c w' (acs_of hM' x3 rfl x2 fun φ hφ => (show φ ∈ x.fs (L.map acP, Rr, []) ++ acsF a n L from List.mem_append_left _ (.tail _ (.tail _ hφ)))) (Mem.acs hA hM' fun φ hφ => (show φ ∈ x.fs (L.map acP, Rr, []) ++ acsF a n L from List.mem_append_right _ hφ))) ?_
     conv=>arg 5;whnf
     refine wp_g1 (fun k1 => ?_) (fun k1 => ?_)
     ·skip
      conv=>arg 5;whnf
      refine wp_g1 (fun k2 => ?_) (fun k2 => ?_)
      ·skip
       conv=>arg 5;whnf
       refine meetc (f := 18) (v := .bool true) rfl (by kernel_rfl) (fun β ρ w' hM' => raccounts x.L L x1 x.a x.L.length x.c a n c w' (acs_of hM' x3 rfl x2 fun φ hφ => (show φ ∈ x.fs (L.map acP, Rr, []) ++ acsF a n L from List.mem_append_left _ (.tail _ (.tail _ hφ)))) (Mem.acs hA hM' fun φ hφ => (show φ ∈ x.fs (L.map acP, Rr, []) ++ acsF a n L from List.mem_append_right _ hφ))) ?_
       conv=>arg 5;whnf
       refine wp_g0 (fun h8 => ?_) (fun h8 => ?_)
       ·have h9 : O.k = 5 := by have : (!(O.k == 5)) = false := h8; simpa using this
        obtain rfl := e2 h9
        conv=>arg 5;whnf
        refine meet1F (f := 32) (n := Rr.l.length) (v := fun a1 c1 => .slice a1 Rr.l.length c1) (xs := cellsL Rr.l) rfl (by kernel_rfl) (fun β ρ w' hM' => TM w' (hM.later hM'.below) (Mem.acs hA hM' fun φ hφ => (show φ ∈ x.fs (L.map acP, Rr, []) ++ acsF a n L from List.mem_append_right _ hφ))) (fun u c_u h_u f_u => ?_)
        conv=>arg 5;whnf
        refine meetc (f := 31) (v := .bool true) rfl (by kernel_rfl) (fun β ρ w' hM' => rtxs Rr.l x.ta Rr.l.length x.tc u c_u w' x4 rfl (hM'.at_ (show rowF (pt x.ta Rr.l.length) (cellsL Rr.l) ∈ rowF (pt u Rr.l.length) (cellsL Rr.l) :: (x.fs (L.map acP, Rr, []) ++ acsF a n L) from .tail _ (List.mem_append_left _ (.head _)))) h_u (hM'.at_ (.head _))) ?_
        conv=>arg 5;whnf
        refine meetc (f := 15) (v := .bool true) rfl (by kernel_rfl) (fun β ρ w' hM' => live w' (hM.later hM'.below)) ?_
        conv=>arg 5;whnf
        exact wp_back fun β ρ w' hM' => ⟨rfl, hM'.below⟩
       ·skip
        conv=>arg 5;whnf
        refine meetc (f := 15) (v := .bool true) rfl (by kernel_rfl) (fun β ρ w' hM' => live w' (hM.later hM'.below)) ?_
        conv=>arg 5;whnf
        exact wp_back fun β ρ w' hM' => ⟨rfl, hM'.below⟩
      ·skip
       conv=>arg 5;whnf
       refine wp_g0 (fun h8 => ?_) (fun h8 => ?_)
       ·have h9 : O.k = 5 := by have : (!(O.k == 5)) = false := h8; simpa using this
        obtain rfl := e2 h9
        conv=>arg 5;whnf
        refine meet1F (f := 32) (n := Rr.l.length) (v := fun a1 c1 => .slice a1 Rr.l.length c1) (xs := cellsL Rr.l) rfl (by kernel_rfl) (fun β ρ w' hM' => TM w' (hM.later hM'.below) (Mem.acs hA hM' fun φ hφ => (show φ ∈ x.fs (L.map acP, Rr, []) ++ acsF a n L from List.mem_append_right _ hφ))) (fun u c_u h_u f_u => ?_)
        conv=>arg 5;whnf
        refine meetc (f := 31) (v := .bool true) rfl (by kernel_rfl) (fun β ρ w' hM' => rtxs Rr.l x.ta Rr.l.length x.tc u c_u w' x4 rfl (hM'.at_ (show rowF (pt x.ta Rr.l.length) (cellsL Rr.l) ∈ rowF (pt u Rr.l.length) (cellsL Rr.l) :: (x.fs (L.map acP, Rr, []) ++ acsF a n L) from .tail _ (List.mem_append_left _ (.head _)))) h_u (hM'.at_ (.head _))) ?_
        conv=>arg 5;whnf
        refine meetc (f := 15) (v := .bool true) rfl (by kernel_rfl) (fun β ρ w' hM' => live w' (hM.later hM'.below)) ?_
        conv=>arg 5;whnf
        exact wp_back fun β ρ w' hM' => ⟨rfl, hM'.below⟩
       ·skip
        conv=>arg 5;whnf
        refine meetc (f := 15) (v := .bool true) rfl (by kernel_rfl) (fun β ρ w' hM' => live w' (hM.later hM'.below)) ?_
        conv=>arg 5;whnf
        exact wp_back fun β ρ w' hM' => ⟨rfl, hM'.below⟩
     ·skip
      conv=>arg 5;whnf
      refine wp_g0 (fun h8 => ?_) (fun h8 => ?_)
      ·have h9 : O.k = 5 := by have : (!(O.k == 5)) = false := h8; simpa using this
       obtain rfl := e2 h9
       conv=>arg 5;whnf
       refine meet1F (f := 32) (n := Rr.l.length) (v := fun a1 c1 => .slice a1 Rr.l.length c1) (xs := cellsL Rr.l) rfl (by kernel_rfl) (fun β ρ w' hM' => TM w' (hM.later hM'.below) (Mem.acs hA hM' fun φ hφ => (show φ ∈ x.fs (L.map acP, Rr, []) ++ acsF a n L from List.mem_append_right _ hφ))) (fun u c_u h_u f_u => ?_)
       conv=>arg 5;whnf
       refine meetc (f := 31) (v := .bool true) rfl (by kernel_rfl) (fun β ρ w' hM' => rtxs Rr.l x.ta Rr.l.length x.tc u c_u w' x4 rfl (hM'.at_ (show rowF (pt x.ta Rr.l.length) (cellsL Rr.l) ∈ rowF (pt u Rr.l.length) (cellsL Rr.l) :: (x.fs (L.map acP, Rr, []) ++ acsF a n L) from .tail _ (List.mem_append_left _ (.head _)))) h_u (hM'.at_ (.head _))) ?_
       conv=>arg 5;whnf
       refine meetc (f := 15) (v := .bool true) rfl (by kernel_rfl) (fun β ρ w' hM' => live w' (hM.later hM'.below)) ?_
       conv=>arg 5;whnf
       exact wp_back fun β ρ w' hM' => ⟨rfl, hM'.below⟩
      ·skip
       conv=>arg 5;whnf
       refine meetc (f := 15) (v := .bool true) rfl (by kernel_rfl) (fun β ρ w' hM' => live w' (hM.later hM'.below)) ?_
       conv=>arg 5;whnf
       exact wp_back fun β ρ w' hM' => ⟨rfl, hM'.below⟩
    ·skip
     conv=>arg 5;whnf
     refine wp_g1 (fun k1 => ?_) (fun k1 => ?_)
     ·skip
      conv=>arg 5;whnf
      refine wp_g1 (fun k2 => ?_) (fun k2 => ?_)
      ·skip
       conv=>arg 5;whnf
       refine meetc (f := 18) (v := .bool true) rfl (by kernel_rfl) (fun β ρ w' hM' => raccounts x.L L x1 x.a x.L.length x.c a n c w' (acs_of hM' x3 rfl x2 fun φ hφ => (show φ ∈ x.fs (L.map acP, Rr, []) ++ acsF a n L from List.mem_append_left _ (.tail _ (.tail _ hφ)))) (Mem.acs hA hM' fun φ hφ => (show φ ∈ x.fs (L.map acP, Rr, []) ++ acsF a n L from List.mem_append_right _ hφ))) ?_
       conv=>arg 5;whnf
       refine wp_g0 (fun h8 => ?_) (fun h8 => ?_)
       ·have h9 : O.k = 5 := by have : (!(O.k == 5)) = false := h8; simpa using this
        obtain rfl := e2 h9
        conv=>arg 5;whnf
        refine meet1F (f := 32) (n := Rr.l.length) (v := fun a1 c1 => .slice a1 Rr.l.length c1) (xs := cellsL Rr.l) rfl (by kernel_rfl) (fun β ρ w' hM' => TM w' (hM.later hM'.below) (Mem.acs hA hM' fun φ hφ => (show φ ∈ x.fs (L.map acP, Rr, []) ++ acsF a n L from List.mem_append_right _ hφ))) (fun u c_u h_u f_u => ?_)
        conv=>arg 5;whnf
        refine meetc (f := 31) (v := .bool true) rfl (by kernel_rfl) (fun β ρ w' hM' => rtxs Rr.l x.ta Rr.l.length x.tc u c_u w' x4 rfl (hM'.at_ (show rowF (pt x.ta Rr.l.length) (cellsL Rr.l) ∈ rowF (pt u Rr.l.length) (cellsL Rr.l) :: (x.fs (L.map acP, Rr, []) ++ acsF a n L) from .tail _ (List.mem_append_left _ (.head _)))) h_u (hM'.at_ (.head _))) ?_
        conv=>arg 5;whnf
        refine meetc (f := 15) (v := .bool true) rfl (by kernel_rfl) (fun β ρ w' hM' => live w' (hM.later hM'.below)) ?_
        conv=>arg 5;whnf
        exact wp_back fun β ρ w' hM' => ⟨rfl, hM'.below⟩
       ·skip
        conv=>arg 5;whnf
        refine meetc (f := 15) (v := .bool true) rfl (by kernel_rfl) (fun β ρ w' hM' => live w' (hM.later hM'.below)) ?_
        conv=>arg 5;whnf
        exact wp_back fun β ρ w' hM' => ⟨rfl, hM'.below⟩
      ·skip
       conv=>arg 5;whnf
       refine wp_g0 (fun h8 => ?_) (fun h8 => ?_)
       ·have h9 : O.k = 5 := by have : (!(O.k == 5)) = false := h8; simpa using this
        obtain rfl := e2 h9
        conv=>arg 5;whnf
        refine meet1F (f := 32) (n := Rr.l.length) (v := fun a1 c1 => .slice a1 Rr.l.length c1) (xs := cellsL Rr.l) rfl (by kernel_rfl) (fun β ρ w' hM' => TM w' (hM.later hM'.below) (Mem.acs hA hM' fun φ hφ => (show φ ∈ x.fs (L.map acP, Rr, []) ++ acsF a n L from List.mem_append_right _ hφ))) (fun u c_u h_u f_u => ?_)
        conv=>arg 5;whnf
        refine meetc (f := 31) (v := .bool true) rfl (by kernel_rfl) (fun β ρ w' hM' => rtxs Rr.l x.ta Rr.l.length x.tc u c_u w' x4 rfl (hM'.at_ (show rowF (pt x.ta Rr.l.length) (cellsL Rr.l) ∈ rowF (pt u Rr.l.length) (cellsL Rr.l) :: (x.fs (L.map acP, Rr, []) ++ acsF a n L) from .tail _ (List.mem_append_left _ (.head _)))) h_u (hM'.at_ (.head _))) ?_
        conv=>arg 5;whnf
        refine meetc (f := 15) (v := .bool true) rfl (by kernel_rfl) (fun β ρ w' hM' => live w' (hM.later hM'.below)) ?_
        conv=>arg 5;whnf
        exact wp_back fun β ρ w' hM' => ⟨rfl, hM'.below⟩
       ·skip
        conv=>arg 5;whnf
        refine meetc (f := 15) (v := .bool true) rfl (by kernel_rfl) (fun β ρ w' hM' => live w' (hM.later hM'.below)) ?_
        conv=>arg 5;whnf
        exact wp_back fun β ρ w' hM' => ⟨rfl, hM'.below⟩
     ·skip
      conv=>arg 5;whnf
      refine wp_g0 (fun h8 => ?_) (fun h8 => ?_)
      ·have h9 : O.k = 5 := by have : (!(O.k == 5)) = false := h8; simpa using this
       obtain rfl := e2 h9
       conv=>arg 5;whnf
       refine meet1F (f := 32) (n := Rr.l.length) (v := fun a1 c1 => .slice a1 Rr.l.length c1) (xs := cellsL Rr.l) rfl (by kernel_rfl) (fun β ρ w' hM' => TM w' (hM.later hM'.below) (Mem.acs hA hM' fun φ hφ => (show φ ∈ x.fs (L.map acP, Rr, []) ++ acsF a n L from List.mem_append_right _ hφ))) (fun u c_u h_u f_u => ?_)
       conv=>arg 5;whnf
       refine meetc (f := 31) (v := .bool true) rfl (by kernel_rfl) (fun β ρ w' hM' => rtxs Rr.l x.ta Rr.l.length x.tc u c_u w' x4 rfl (hM'.at_ (show rowF (pt x.ta Rr.l.length) (cellsL Rr.l) ∈ rowF (pt u Rr.l.length) (cellsL Rr.l) :: (x.fs (L.map acP, Rr, []) ++ acsF a n L) from .tail _ (List.mem_append_left _ (.head _)))) h_u (hM'.at_ (.head _))) ?_
       conv=>arg 5;whnf
       refine meetc (f := 15) (v := .bool true) rfl (by kernel_rfl) (fun β ρ w' hM' => live w' (hM.later hM'.below)) ?_
       conv=>arg 5;whnf
       exact wp_back fun β ρ w' hM' => ⟨rfl, hM'.below⟩
      ·skip
       conv=>arg 5;whnf
       refine meetc (f := 15) (v := .bool true) rfl (by kernel_rfl) (fun β ρ w' hM' => live w' (hM.later hM'.below)) ?_
       conv=>arg 5;whnf
       exact wp_back fun β ρ w' hM' => ⟨rfl, hM'.below⟩
   ·have hS1 : Rr.e = 0 := by omega
    have hS2 : ¬ (3 ≤ O.k ∧ O.k ≤ 5) := fun h => hS (.inr h)
    conv=>arg 5;whnf
    refine wp_g1 (fun h3 => by rw [hS1] at h3; cases h3) (fun h3 => ?_)
    conv=>arg 5;whnf
    refine wp_g1 (fun k1 => ?_) (fun k1 => ?_)
    ·have k3 : O.k ≥ 3 := of_decide_eq_true k1
     conv=>arg 5;whnf
     refine wp_g1 (fun k2 => by have k4 : O.k ≤ 5 := of_decide_eq_true k2; omega) (fun k2 => ?_)
     conv=>arg 5;whnf
     refine wp_g0 (fun h8 => ?_) (fun h8 => ?_)
     ·have h9 : O.k = 5 := by have : (!(O.k == 5)) = false := h8; simpa using this
      obtain rfl := e2 h9
      conv=>arg 5;whnf
      refine meet1F (f := 32) (n := Rr.l.length) (v := fun a1 c1 => .slice a1 Rr.l.length c1) (xs := cellsL Rr.l) rfl (by kernel_rfl) (fun β ρ w' hM' => TM w' (hM.later hM'.below) (Mem.acs hA hM' fun φ hφ => (show φ ∈ x.fs (RP, Rr, Re) ++ acsF a n L from List.mem_append_right _ hφ))) (fun u c_u h_u f_u => ?_)
      conv=>arg 5;whnf
      refine meetc (f := 31) (v := .bool true) rfl (by kernel_rfl) (fun β ρ w' hM' => rtxs Rr.l x.ta Rr.l.length x.tc u c_u w' x4 rfl (hM'.at_ (show rowF (pt x.ta Rr.l.length) (cellsL Rr.l) ∈ rowF (pt u Rr.l.length) (cellsL Rr.l) :: (x.fs (RP, Rr, Re) ++ acsF a n L) from .tail _ (List.mem_append_left _ (.head _)))) h_u (hM'.at_ (.head _))) ?_
      conv=>arg 5;whnf
      refine meetc (f := 15) (v := .bool true) rfl (by kernel_rfl) (fun β ρ w' hM' => live w' (hM.later hM'.below)) ?_
      conv=>arg 5;whnf
      exact wp_back fun β ρ w' hM' => ⟨rfl, hM'.below⟩
     ·skip
      conv=>arg 5;whnf
      refine meetc (f := 15) (v := .bool true) rfl (by kernel_rfl) (fun β ρ w' hM' => live w' (hM.later hM'.below)) ?_
      conv=>arg 5;whnf
      exact wp_back fun β ρ w' hM' => ⟨rfl, hM'.below⟩
    ·skip
     conv=>arg 5;whnf
     refine wp_g0 (fun h8 => ?_) (fun h8 => ?_)
     ·have h9 : O.k = 5 := by have : (!(O.k == 5)) = false := h8; simpa using this
      obtain rfl := e2 h9
      conv=>arg 5;whnf
      refine meet1F (f := 32) (n := Rr.l.length) (v := fun a1 c1 => .slice a1 Rr.l.length c1) (xs := cellsL Rr.l) rfl (by kernel_rfl) (fun β ρ w' hM' => TM w' (hM.later hM'.below) (Mem.acs hA hM' fun φ hφ => (show φ ∈ x.fs (RP, Rr, Re) ++ acsF a n L from List.mem_append_right _ hφ))) (fun u c_u h_u f_u => ?_)
      conv=>arg 5;whnf
      refine meetc (f := 31) (v := .bool true) rfl (by kernel_rfl) (fun β ρ w' hM' => rtxs Rr.l x.ta Rr.l.length x.tc u c_u w' x4 rfl (hM'.at_ (show rowF (pt x.ta Rr.l.length) (cellsL Rr.l) ∈ rowF (pt u Rr.l.length) (cellsL Rr.l) :: (x.fs (RP, Rr, Re) ++ acsF a n L) from .tail _ (List.mem_append_left _ (.head _)))) h_u (hM'.at_ (.head _))) ?_
      conv=>arg 5;whnf
      refine meetc (f := 15) (v := .bool true) rfl (by kernel_rfl) (fun β ρ w' hM' => live w' (hM.later hM'.below)) ?_
      conv=>arg 5;whnf
      exact wp_back fun β ρ w' hM' => ⟨rfl, hM'.below⟩
     ·skip
      conv=>arg 5;whnf
      refine meetc (f := 15) (v := .bool true) rfl (by kernel_rfl) (fun β ρ w' hM' => live w' (hM.later hM'.below)) ?_
      conv=>arg 5;whnf
      exact wp_back fun β ρ w' hM' => ⟨rfl, hM'.below⟩
end Go.Proofs.YtofpmnkkimgkfaaGreatDoor.poolMay
namespace Go.Proofs.YtofpmnkkimgkfaaGreatDoor.poolMay
open Go.ChangeShapes Go.WideShapes Go.ChangeAt Go.RowKit
open Go.ChangeMaps (open_string shut_string)
theorem own : ownKnob Tryz.prog.godebug = none := by kernel_rfl
theorem laidOut : laidOutB Tryz.prog = true := by kernel_rfl
noncomputable def laidWorld (os : Os) : World :=
 let w0 := World.holding Tryz.prog os ⟨#[], #[], []⟩
 { w0 with heap := w0.heap.modify 0 fun
   | .cells _ t frozen => .cells #[.int .i64 255, .int .i64 4294967295, .int .i64 1099511627776, .int .i64 1099511627776, .int .i64 1073741824] t frozen
   | o => o }
theorem laid_met (os : Os) (args : Array Value) : laidMet Tryz.prog Rows.poolMayRow.laid ((laidWorld os).forCall (fun _ _ => 0) ⟨#[], args, []⟩).memory :=
 laidMet_of_run (ps := [.cell 0 0, .cell 0 1, .cell 0 2, .cell 0 3, .cell 0 4]) 8 (by kernel_rfl) (by kernel_rfl) (by kernel_rfl)
theorem lifted (os : Os) (started : os.Started) (H : Type) (enc : TypeId × Value → H) :
  ReturnsInHanded {} Tryz.checked os 5 .any (fun w args => (Rows.poolMaySpec.pre enc Tryz.prog Tryz.f5 Rows.poolMayRow.domain false w args ∧ laidMet Tryz.prog Rows.poolMayRow.laid w) ∧ sizedMet enc Tryz.prog Tryz.f5 (OpenSpec.ofChange Rows.poolMaySpec) false w args) (Rows.poolMaySpec.post enc Tryz.prog Tryz.f5 false true false false) := by
 refine returnsInHanded_of_change_and (C := Tryz.checked) (X := fun w _ => laidMet Tryz.prog Rows.poolMayRow.laid w) (fun _ _ _ hh h => h.of_heap hh) own started (by kernel_rfl) Tryz.func5
  (ChangeSpec.witness_at (enc := enc) (C := Tryz.checked) (os := os) (X := fun w _ => laidMet Tryz.prog Rows.poolMayRow.laid w) false (laidWorld os) #[.agg #[.int .i64 0, .int .i64 0, .int .i64 0, .int .i64 0, .int .i64 0, .int .i64 0, .int .i64 0, .int .i64 0], .slice none 0 0, .agg #[.int .i64 0, .int .i64 0, .int .i64 0, .int .i64 0, .string ByteArray.empty]] 8 rfl (by kernel_rfl) (by kernel_rfl) (by kernel_rfl) (by kernel_rfl) (by kernel_rfl) (laid_met os _)) ?_
 intro W base args ds gs before hval0 hW hcnd _ hL _
 have hval : ∀ (j : Nat) t v, Tryz.f5.params[j]? = some t → args[j]? = some v → Value.okWide Tryz.prog W .any base t v := hval0
 have hW' := hW
 obtain ⟨p, q, hA0, hV, rfl, hfz, hnd⟩ := hW
 have hA : DataW.TrodAll enc Tryz.prog W 0 (fun _ => true) true Tryz.f5.params.toList args.toList ds p := hA0
 rw [Tryz.params5] at hA hval
 obtain ⟨v0, vs0, d0, ds0, p0, q0, hargs, rfl, rfl, h0, r0⟩ := trodAll_cons hA
 obtain ⟨v1, vs1, d1, ds1, p1, q1, rfl, rfl, rfl, h1, r1⟩ := trodAll_cons r0
 obtain ⟨v2, vs2, d2, ds2, p2, q2, rfl, rfl, rfl, h2, r2⟩ := trodAll_cons r1
 obtain ⟨rfl, rfl, rfl⟩ := trodAll_nil r2
 obtain rfl : args = #[v0, v1, v2] := by cases args; simp_all
 obtain ⟨rfl, rfl⟩ := trodVars_none hV
 have k0 := h0
 have lt0 : ∀ x ∈ p0, x.block < W.heap.size := by obtain ⟨m, hm⟩ := k0; exact DataW.trod_lt m _ _ _ hm
 obtain ⟨C0, rfl, f0⟩ := pool.open_cfg (hval 0 23 v0 rfl rfl) h0
 have k1 := h1
 have lt1 : ∀ x ∈ p1, x.block < W.heap.size := by obtain ⟨m, hm⟩ := k1; exact DataW.trod_lt m _ _ _ hm
 obtain ⟨a1, n1, c1, l1, rfl, f1⟩ := greedy.open_accs (hval 1 24 v1 rfl rfl) h1
 have k2 := h2
 have lt2 : ∀ x ∈ p2, x.block < W.heap.size := by obtain ⟨m, hm⟩ := k2; exact DataW.trod_lt m _ _ _ hm
 obtain ⟨O2, rfl, f2⟩ := pool.open_op (hval 2 26 v2 rfl rfl) h2
 clear hA0 hval0
 have hM : txn.Most W := txn.most_of_laid hL
 refine (walk C0 a1 n1 c1 l1 O2 W hM f0 f1 f2).mono fun e W' ⟨he, bel⟩ => ?_
 subst he
 exact ⟨_, rfl, _, _, _, [], _, [], hW', trodAll_mk1 (shut_bool Tryz.underlying4 _), (trodAll_cons_mk (Below.trod laidOut (by kernel_rfl) (of_decide_eq_true (by kernel_rfl)) k0 bel lt0) (trodAll_cons_mk (Below.trod laidOut (by kernel_rfl) (of_decide_eq_true (by kernel_rfl)) k1 bel lt1) (trodAll_cons_mk (Below.trod laidOut (by kernel_rfl) (of_decide_eq_true (by kernel_rfl)) k2 bel lt2) trodAll_mk0))), rfl, bel.frame _, fun h => by cases h⟩
theorem over : Rows.PoolMaySaid :=
 OpenClaim.holds_of_wide 5 Tryz.f5 rfl rfl rfl rfl rfl rfl rfl ⟨rfl, rfl, rfl, rfl, rfl⟩ rfl rfl rfl rfl rfl (by kernel_rfl) Tryz.func5 (by kernel_rfl)
  (of_decide_eq_true (by kernel_rfl)) (by unfold Func.isWrapper; first | (rw [if_pos (by decide +kernel)]; kernel_rfl) | (rw [if_neg (by decide +kernel)]; exact ⟨rfl, rfl⟩))
  (fun os started H enc _ => lifted os started H enc)
theorem proved : Rows.PoolMayCardSaid :=
 Claim7.holds_tied_plain_at .later [] [.data] true (true, "d7a6610ef8b400b1696ea98ccecb2799c1cff8b5abd6bf6f50ead7769ba5ae9c") false
  over (fun _ h => by cases h) (by kernel_rfl) (fun _ h => by cases h) poolMay_row_tie rfl ⟨rfl, rfl⟩ (by kernel_rfl) rfl
  (fun f fn hf hfn => by
   obtain rfl : f = 5 := (Option.some.inj ((show Tryz.prog.funcNamed "hopper/hopperlaw13.PoolMay" = some 5 by kernel_rfl).symm.trans hf)).symm
   obtain rfl : fn = Tryz.f5 := (Option.some.inj (Tryz.func5.symm.trans hfn)).symm
   exact ⟨by kernel_rfl, fun j t ht => by
    rw [Tryz.params5] at ht
    match j, ht with
    | 0, ht =>
     obtain rfl : t = 23 := by simpa using ht.symm
     exact (show Tryz.prog.wantsStandIn 23 = false by kernel_rfl)
    | 1, ht =>
     obtain rfl : t = 24 := by simpa using ht.symm
     exact (show Tryz.prog.wantsStandIn 24 = false by kernel_rfl)
    | 2, ht =>
     obtain rfl : t = 26 := by simpa using ht.symm
     exact (show Tryz.prog.wantsStandIn 26 = false by kernel_rfl)
    | j + 3, ht => simp at ht⟩)
  (by kernel_rfl)
#print axioms proved
end Go.Proofs.YtofpmnkkimgkfaaGreatDoor.poolMay
