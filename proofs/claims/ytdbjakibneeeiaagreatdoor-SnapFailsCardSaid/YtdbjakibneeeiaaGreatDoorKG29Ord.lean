/- Layer 4 (txn.Better) and the document's own, by contract. -/
import Derived.Test.YtdbjakibneeeiaaGreatDoorKTxnId
import Derived.Deep.RegionHeld3
set_option linter.all false
set_option maxHeartbeats 4000000
set_option maxRecDepth 100000
namespace Go.Proofs.YtdbjakibneeeiaaGreatDoor.txn
open Go.RowKit cE
def cV (a b:Tx):Bool:=if a.t≠b.t then decide (b.t<a.t) else if DN a≠DN b then Op.bytesLess (DN a) (DN b) else if a.s≠b.s then decide (a.s<b.s) else decide (a.n<b.n)
def dY {w W W':World} {ps pn pt pc pg qs qn qt qc qg:Int} {pd qd:ByteArray} (h:W.cell? ⟨w.heap.size,0,none⟩=some (.int .i64 ps)∧W.cell? ⟨w.heap.size,1,none⟩=some (.int .i64 pn)∧W.cell? ⟨w.heap.size,2,none⟩=some (.int .i64 pt)∧W.cell? ⟨w.heap.size,3,none⟩=some (.int .i64 pc)∧W.cell? ⟨w.heap.size,4,none⟩=some (.int .i64 pg)∧W.cell? ⟨w.heap.size,5,none⟩=some (.string pd)∧W.cell? ⟨(w.heap.size+1),0,none⟩=some (.int .i64 qs)∧W.cell? ⟨(w.heap.size+1),1,none⟩=some (.int .i64 qn)∧W.cell? ⟨(w.heap.size+1),2,none⟩=some (.int .i64 qt)∧W.cell? ⟨(w.heap.size+1),3,none⟩=some (.int .i64 qc)∧W.cell? ⟨(w.heap.size+1),4,none⟩=some (.int .i64 qg)∧W.cell? ⟨(w.heap.size+1),5,none⟩=some (.string qd)∧w.heap.size+1<W.heap.size∧bA W∧Below w.heap.size w W) (k:Below W.heap.size W W'):W'.cell? ⟨w.heap.size,0,none⟩=some (.int .i64 ps)∧W'.cell? ⟨w.heap.size,1,none⟩=some (.int .i64 pn)∧W'.cell? ⟨w.heap.size,2,none⟩=some (.int .i64 pt)∧W'.cell? ⟨w.heap.size,3,none⟩=some (.int .i64 pc)∧W'.cell? ⟨w.heap.size,4,none⟩=some (.int .i64 pg)∧W'.cell? ⟨w.heap.size,5,none⟩=some (.string pd)∧W'.cell? ⟨(w.heap.size+1),0,none⟩=some (.int .i64 qs)∧W'.cell? ⟨(w.heap.size+1),1,none⟩=some (.int .i64 qn)∧W'.cell? ⟨(w.heap.size+1),2,none⟩=some (.int .i64 qt)∧W'.cell? ⟨(w.heap.size+1),3,none⟩=some (.int .i64 qc)∧W'.cell? ⟨(w.heap.size+1),4,none⟩=some (.int .i64 qg)∧W'.cell? ⟨(w.heap.size+1),5,none⟩=some (.string qd)∧w.heap.size+1<W'.heap.size∧bA W'∧Below w.heap.size w W':=by
 obtain ⟨c0,c1,c2,c3,c4,c5,c6,c7,c8,c9,c10,c11,hz,hM,hb⟩:=h
 have hz0:w.heap.size<W.heap.size:=by omega
 exact ⟨(k.cell hz0).trans c0,(k.cell hz0).trans c1,(k.cell hz0).trans c2,(k.cell hz0).trans c3,(k.cell hz0).trans c4,(k.cell hz0).trans c5,(k.cell hz).trans c6,(k.cell hz).trans c7,(k.cell hz).trans c8,(k.cell hz).trans c9,(k.cell hz).trans c10,(k.cell hz).trans c11,Nat.lt_of_lt_of_le hz k.size,hM.later k,later hb k⟩
def pJ {w W:World} {ps pn pt pc pg qs qn qt qc qg:Int} {pd qd:ByteArray} (h:W.cell? ⟨w.heap.size,0,none⟩=some (.int .i64 ps)∧W.cell? ⟨w.heap.size,1,none⟩=some (.int .i64 pn)∧W.cell? ⟨w.heap.size,2,none⟩=some (.int .i64 pt)∧W.cell? ⟨w.heap.size,3,none⟩=some (.int .i64 pc)∧W.cell? ⟨w.heap.size,4,none⟩=some (.int .i64 pg)∧W.cell? ⟨w.heap.size,5,none⟩=some (.string pd)∧W.cell? ⟨(w.heap.size+1),0,none⟩=some (.int .i64 qs)∧W.cell? ⟨(w.heap.size+1),1,none⟩=some (.int .i64 qn)∧W.cell? ⟨(w.heap.size+1),2,none⟩=some (.int .i64 qt)∧W.cell? ⟨(w.heap.size+1),3,none⟩=some (.int .i64 qc)∧W.cell? ⟨(w.heap.size+1),4,none⟩=some (.int .i64 qg)∧W.cell? ⟨(w.heap.size+1),5,none⟩=some (.string qd)∧w.heap.size+1<W.heap.size∧bA W∧Below w.heap.size w W):W.drew.cell? ⟨w.heap.size,0,none⟩=some (.int .i64 ps)∧W.drew.cell? ⟨w.heap.size,1,none⟩=some (.int .i64 pn)∧W.drew.cell? ⟨w.heap.size,2,none⟩=some (.int .i64 pt)∧W.drew.cell? ⟨w.heap.size,3,none⟩=some (.int .i64 pc)∧W.drew.cell? ⟨w.heap.size,4,none⟩=some (.int .i64 pg)∧W.drew.cell? ⟨w.heap.size,5,none⟩=some (.string pd)∧W.drew.cell? ⟨(w.heap.size+1),0,none⟩=some (.int .i64 qs)∧W.drew.cell? ⟨(w.heap.size+1),1,none⟩=some (.int .i64 qn)∧W.drew.cell? ⟨(w.heap.size+1),2,none⟩=some (.int .i64 qt)∧W.drew.cell? ⟨(w.heap.size+1),3,none⟩=some (.int .i64 qc)∧W.drew.cell? ⟨(w.heap.size+1),4,none⟩=some (.int .i64 qg)∧W.drew.cell? ⟨(w.heap.size+1),5,none⟩=some (.string qd)∧w.heap.size+1<W.drew.heap.size∧bA W.drew∧Below w.heap.size w W.drew:=
 dY h (Below.refl _ _).drew
def gT {w W:World} {ps pn pt pc pg qs qn qt qc qg:Int} {pd qd:ByteArray} (h:W.cell? ⟨w.heap.size,0,none⟩=some (.int .i64 ps)∧W.cell? ⟨w.heap.size,1,none⟩=some (.int .i64 pn)∧W.cell? ⟨w.heap.size,2,none⟩=some (.int .i64 pt)∧W.cell? ⟨w.heap.size,3,none⟩=some (.int .i64 pc)∧W.cell? ⟨w.heap.size,4,none⟩=some (.int .i64 pg)∧W.cell? ⟨w.heap.size,5,none⟩=some (.string pd)∧W.cell? ⟨(w.heap.size+1),0,none⟩=some (.int .i64 qs)∧W.cell? ⟨(w.heap.size+1),1,none⟩=some (.int .i64 qn)∧W.cell? ⟨(w.heap.size+1),2,none⟩=some (.int .i64 qt)∧W.cell? ⟨(w.heap.size+1),3,none⟩=some (.int .i64 qc)∧W.cell? ⟨(w.heap.size+1),4,none⟩=some (.int .i64 qg)∧W.cell? ⟨(w.heap.size+1),5,none⟩=some (.string qd)∧w.heap.size+1<W.heap.size∧bA W∧Below w.heap.size w W):bA W:=by
 obtain ⟨c0,c1,c2,c3,c4,c5,c6,c7,c8,c9,c10,c11,hz,hM,hb⟩:=h
 exact hM
def wB (w:World) (hM:bA w) (ps pn pt pc pg qs qn qt qc qg:Int) (pd qd:ByteArray):∃W,W=(w.alloc (.cells #[.int .i64 ps,.int .i64 pn,.int .i64 pt,.int .i64 pc,.int .i64 pg,.string pd] 26 (0,0))).alloc (.cells #[.int .i64 qs,.int .i64 qn,.int .i64 qt,.int .i64 qc,.int .i64 qg,.string qd] 26 (0,0))∧W.cell? ⟨w.heap.size,0,none⟩=some (.int .i64 ps)∧W.cell? ⟨w.heap.size,1,none⟩=some (.int .i64 pn)∧W.cell? ⟨w.heap.size,2,none⟩=some (.int .i64 pt)∧W.cell? ⟨w.heap.size,3,none⟩=some (.int .i64 pc)∧W.cell? ⟨w.heap.size,4,none⟩=some (.int .i64 pg)∧W.cell? ⟨w.heap.size,5,none⟩=some (.string pd)∧W.cell? ⟨(w.heap.size+1),0,none⟩=some (.int .i64 qs)∧W.cell? ⟨(w.heap.size+1),1,none⟩=some (.int .i64 qn)∧W.cell? ⟨(w.heap.size+1),2,none⟩=some (.int .i64 qt)∧W.cell? ⟨(w.heap.size+1),3,none⟩=some (.int .i64 qc)∧W.cell? ⟨(w.heap.size+1),4,none⟩=some (.int .i64 qg)∧W.cell? ⟨(w.heap.size+1),5,none⟩=some (.string qd)∧w.heap.size+1<W.heap.size∧bA W∧Below w.heap.size w W:=by
 have hb:Below w.heap.size w ((w.alloc (.cells #[.int .i64 ps,.int .i64 pn,.int .i64 pt,.int .i64 pc,.int .i64 pg,.string pd] 26 (0,0))).alloc (.cells #[.int .i64 qs,.int .i64 qn,.int .i64 qt,.int .i64 qc,.int .i64 qg,.string qd] 26 (0,0))):=laid (laid (Below.refl _ _) _) _
 refine ⟨_,rfl,?_⟩
 refine ⟨by simp,by simp,by simp,by simp,by simp,by simp,by simp,by simp,by simp,by simp,by simp,by simp,?_,hM.later hb,hb⟩
 show w.heap.size+1<((w.heap.push _).push _).size
 simp
def better (a b:Tx) (w:World) (hM:bA w) (ha:a.d.size≤maxLen) (hb:b.d.size≤maxLen) :
  Calls Tryz.prog 211 #[a.val,b.val] w fun e w'=>e=.returned (.bool (cV a b))∧Below w.heap.size w w':=by
 have IA:=Lib.hid (fun w hM=>id a w hM ha)
 have IB:=Lib.hid (fun w hM=>id b w hM hb)
 obtain ⟨V,HV⟩:∃V,Hid (V=cV a b):=⟨_,Lib.hid rfl⟩
 rw [← HV.out]
 unfold cV at HV
 generalize DN a=X at IA HV
 generalize DN b=Y at IB HV
 obtain ⟨ps,pn,pt,pc,pg,pd⟩:=a
 obtain ⟨qs,qn,qt,qc,qg,qd⟩:=b
 simp only [Tx.val] at IA IB ⊢
 simp only [] at HV
 obtain ⟨W,hW,SS⟩:=wB w hM ps pn pt pc pg qs qn qt qc qg pd qd
 clear hM ha hb
 by_cases c1:pt=qt
 ·subst c1
  have b1:(pt != pt)=false:=by simp
  rw [if_neg (by simp)] at HV
  by_cases c2:X=Y
  ·subst c2
   rw [if_neg (by simp)] at HV
   by_cases c3:ps=qs
   ·rw [if_neg (by simpa using c3)] at HV
    have b3:(ps != qs)=false:=by simpa using c3
    clear c3
    go_enter Tryz.func211,Tryz.ntmps211
    go_wp2_with fail
    rw [← hW]
    clear hW
    refine wp_region_noPanic ?_
    refine wp_region_held_drew (S:=fun w'=>w'.cell? ⟨w.heap.size,0,none⟩=some (.int .i64 ps)∧w'.cell? ⟨w.heap.size,1,none⟩=some (.int .i64 pn)∧w'.cell? ⟨w.heap.size,2,none⟩=some (.int .i64 pt)∧w'.cell? ⟨w.heap.size,3,none⟩=some (.int .i64 pc)∧w'.cell? ⟨w.heap.size,4,none⟩=some (.int .i64 pg)∧w'.cell? ⟨w.heap.size,5,none⟩=some (.string pd)∧w'.cell? ⟨(w.heap.size+1),0,none⟩=some (.int .i64 qs)∧w'.cell? ⟨(w.heap.size+1),1,none⟩=some (.int .i64 qn)∧w'.cell? ⟨(w.heap.size+1),2,none⟩=some (.int .i64 pt)∧w'.cell? ⟨(w.heap.size+1),3,none⟩=some (.int .i64 qc)∧w'.cell? ⟨(w.heap.size+1),4,none⟩=some (.int .i64 qg)∧w'.cell? ⟨(w.heap.size+1),5,none⟩=some (.string qd)∧w.heap.size+1<w'.heap.size∧bA w'∧Below w.heap.size w w') (by kernel_rfl) (pJ SS) (fun hHeld=>?_)
    refine wpAnyH_take (i:=0) (v:=?_) rfl (by kernel_rfl) (by kernel_rfl) (by kernel_rfl) (fun _ _ _ h=>h) (Or.inl ⟨rfl,?_⟩) (by assumption) ?_
    rotate_left
    ·intro w hSw
     go_simp
     try with_reducible rfl
    try simp only [Act.put,aj]
    refine wpAnyH_take (i:=2) (v:=?_) rfl (by kernel_rfl) (by kernel_rfl) (by kernel_rfl) (fun _ _ _ h=>h) (Or.inl ⟨rfl,?_⟩) (by assumption) ?_
    rotate_left
    ·intro w hSw
     go_simp
     try with_reducible rfl
    try simp only [Act.put,aj]
    refine wpAnyH_ready (rs:=[1]) (by kernel_rfl) (by simp) ?_
    refine AllReadyH.cons rfl (fun K hK=>?_) AllReadyH.nil
    go_simp
    refine (IA.out _ (gT (by assumption))).mono ?_;rintro e w1 ⟨rfl,hb1⟩
    go_wp2_with fail
    refine hK.out _ _ (dY (by assumption) hb1) (fun hHeld=>?_)
    clear hK K
    try simp only [Act.put,aj]
    refine wpAnyH_ready (rs:=[3]) (by kernel_rfl) (by simp) ?_
    refine AllReadyH.cons rfl (fun K hK=>?_) AllReadyH.nil
    go_simp
    refine (IB.out _ (gT (by assumption))).mono ?_;rintro e w2 ⟨rfl,hb2⟩
    go_wp2_with fail
    refine hK.out _ _ (dY (by assumption) hb2) (fun hHeld=>?_)
    clear hK K
    try simp only [Act.put,aj]
    refine wpAnyH_take (i:=4) (v:=?_) rfl (by kernel_rfl) (by kernel_rfl) (by kernel_rfl) (fun _ _ _ h=>h) (Or.inl ⟨rfl,?_⟩) (by assumption) ?_
    rotate_left
    ·intro w hSw
     go_simp
     try with_reducible rfl
    try simp only [Act.put,aj]
    refine wpAnyH_take (i:=5) (v:=?_) rfl (by kernel_rfl) (by kernel_rfl) (by kernel_rfl) (fun _ _ _ h=>h) (Or.inl ⟨rfl,?_⟩) (by assumption) ?_
    rotate_left
    ·intro w hSw
     go_simp
     try with_reducible rfl
    try simp only [Act.put,aj]
    refine wpAnyH_done (by kernel_rfl) (NoPanic.normal ?_) _
    have hf:w2.cell? ⟨w.heap.size,0,none⟩=some (.int .i64 ps)∧w2.cell? ⟨w.heap.size,1,none⟩=some (.int .i64 pn)∧w2.cell? ⟨w.heap.size,2,none⟩=some (.int .i64 pt)∧w2.cell? ⟨w.heap.size,3,none⟩=some (.int .i64 pc)∧w2.cell? ⟨w.heap.size,4,none⟩=some (.int .i64 pg)∧w2.cell? ⟨w.heap.size,5,none⟩=some (.string pd)∧w2.cell? ⟨(w.heap.size+1),0,none⟩=some (.int .i64 qs)∧w2.cell? ⟨(w.heap.size+1),1,none⟩=some (.int .i64 qn)∧w2.cell? ⟨(w.heap.size+1),2,none⟩=some (.int .i64 pt)∧w2.cell? ⟨(w.heap.size+1),3,none⟩=some (.int .i64 qc)∧w2.cell? ⟨(w.heap.size+1),4,none⟩=some (.int .i64 qg)∧w2.cell? ⟨(w.heap.size+1),5,none⟩=some (.string qd)∧w.heap.size+1<w2.heap.size∧bA w2∧Below w.heap.size w w2:=by assumption
    clear hHeld
    obtain ⟨c0,c1,c2,c3,c4,c5,c6,c7,c8,c9,c10,c11,hz,hMW,hbel⟩:=hf
    go_wp2_with fail
    go_ret
    exact ⟨by rw [HV.out];rfl,hbel⟩
   ·rw [if_pos c3] at HV
    have b3:(ps != qs)=true:=by simpa using c3
    go_enter Tryz.func211,Tryz.ntmps211
    go_wp2_with fail
    rw [← hW]
    clear hW
    refine wp_region_noPanic ?_
    refine wp_region_held_drew (S:=fun w'=>w'.cell? ⟨w.heap.size,0,none⟩=some (.int .i64 ps)∧w'.cell? ⟨w.heap.size,1,none⟩=some (.int .i64 pn)∧w'.cell? ⟨w.heap.size,2,none⟩=some (.int .i64 pt)∧w'.cell? ⟨w.heap.size,3,none⟩=some (.int .i64 pc)∧w'.cell? ⟨w.heap.size,4,none⟩=some (.int .i64 pg)∧w'.cell? ⟨w.heap.size,5,none⟩=some (.string pd)∧w'.cell? ⟨(w.heap.size+1),0,none⟩=some (.int .i64 qs)∧w'.cell? ⟨(w.heap.size+1),1,none⟩=some (.int .i64 qn)∧w'.cell? ⟨(w.heap.size+1),2,none⟩=some (.int .i64 pt)∧w'.cell? ⟨(w.heap.size+1),3,none⟩=some (.int .i64 qc)∧w'.cell? ⟨(w.heap.size+1),4,none⟩=some (.int .i64 qg)∧w'.cell? ⟨(w.heap.size+1),5,none⟩=some (.string qd)∧w.heap.size+1<w'.heap.size∧bA w'∧Below w.heap.size w w') (by kernel_rfl) (pJ SS) (fun hHeld=>?_)
    refine wpAnyH_take (i:=0) (v:=?_) rfl (by kernel_rfl) (by kernel_rfl) (by kernel_rfl) (fun _ _ _ h=>h) (Or.inl ⟨rfl,?_⟩) (by assumption) ?_
    rotate_left
    ·intro w hSw
     go_simp
     try with_reducible rfl
    try simp only [Act.put,aj]
    refine wpAnyH_take (i:=2) (v:=?_) rfl (by kernel_rfl) (by kernel_rfl) (by kernel_rfl) (fun _ _ _ h=>h) (Or.inl ⟨rfl,?_⟩) (by assumption) ?_
    rotate_left
    ·intro w hSw
     go_simp
     try with_reducible rfl
    try simp only [Act.put,aj]
    refine wpAnyH_ready (rs:=[1]) (by kernel_rfl) (by simp) ?_
    refine AllReadyH.cons rfl (fun K hK=>?_) AllReadyH.nil
    go_simp
    refine (IA.out _ (gT (by assumption))).mono ?_;rintro e w1 ⟨rfl,hb1⟩
    go_wp2_with fail
    refine hK.out _ _ (dY (by assumption) hb1) (fun hHeld=>?_)
    clear hK K
    try simp only [Act.put,aj]
    refine wpAnyH_ready (rs:=[3]) (by kernel_rfl) (by simp) ?_
    refine AllReadyH.cons rfl (fun K hK=>?_) AllReadyH.nil
    go_simp
    refine (IB.out _ (gT (by assumption))).mono ?_;rintro e w2 ⟨rfl,hb2⟩
    go_wp2_with fail
    refine hK.out _ _ (dY (by assumption) hb2) (fun hHeld=>?_)
    clear hK K
    try simp only [Act.put,aj]
    refine wpAnyH_take (i:=4) (v:=?_) rfl (by kernel_rfl) (by kernel_rfl) (by kernel_rfl) (fun _ _ _ h=>h) (Or.inl ⟨rfl,?_⟩) (by assumption) ?_
    rotate_left
    ·intro w hSw
     go_simp
     try with_reducible rfl
    try simp only [Act.put,aj]
    refine wpAnyH_take (i:=5) (v:=?_) rfl (by kernel_rfl) (by kernel_rfl) (by kernel_rfl) (fun _ _ _ h=>h) (Or.inl ⟨rfl,?_⟩) (by assumption) ?_
    rotate_left
    ·intro w hSw
     go_simp
     try with_reducible rfl
    try simp only [Act.put,aj]
    refine wpAnyH_done (by kernel_rfl) (NoPanic.normal ?_) _
    have hf:w2.cell? ⟨w.heap.size,0,none⟩=some (.int .i64 ps)∧w2.cell? ⟨w.heap.size,1,none⟩=some (.int .i64 pn)∧w2.cell? ⟨w.heap.size,2,none⟩=some (.int .i64 pt)∧w2.cell? ⟨w.heap.size,3,none⟩=some (.int .i64 pc)∧w2.cell? ⟨w.heap.size,4,none⟩=some (.int .i64 pg)∧w2.cell? ⟨w.heap.size,5,none⟩=some (.string pd)∧w2.cell? ⟨(w.heap.size+1),0,none⟩=some (.int .i64 qs)∧w2.cell? ⟨(w.heap.size+1),1,none⟩=some (.int .i64 qn)∧w2.cell? ⟨(w.heap.size+1),2,none⟩=some (.int .i64 pt)∧w2.cell? ⟨(w.heap.size+1),3,none⟩=some (.int .i64 qc)∧w2.cell? ⟨(w.heap.size+1),4,none⟩=some (.int .i64 qg)∧w2.cell? ⟨(w.heap.size+1),5,none⟩=some (.string qd)∧w.heap.size+1<w2.heap.size∧bA w2∧Below w.heap.size w w2:=by assumption
    clear hHeld
    obtain ⟨c0,c1,c2,c3,c4,c5,c6,c7,c8,c9,c10,c11,hz,hMW,hbel⟩:=hf
    go_wp2_with fail
    go_ret
    exact ⟨by rw [HV.out];rfl,hbel⟩
  ·rw [if_pos c2] at HV
   have b2:(X==Y)=false:=by simpa using c2
   go_enter Tryz.func211,Tryz.ntmps211
   go_wp2_with fail
   rw [← hW]
   clear hW
   refine wp_region_noPanic ?_
   refine wp_region_held_drew (S:=fun w'=>w'.cell? ⟨w.heap.size,0,none⟩=some (.int .i64 ps)∧w'.cell? ⟨w.heap.size,1,none⟩=some (.int .i64 pn)∧w'.cell? ⟨w.heap.size,2,none⟩=some (.int .i64 pt)∧w'.cell? ⟨w.heap.size,3,none⟩=some (.int .i64 pc)∧w'.cell? ⟨w.heap.size,4,none⟩=some (.int .i64 pg)∧w'.cell? ⟨w.heap.size,5,none⟩=some (.string pd)∧w'.cell? ⟨(w.heap.size+1),0,none⟩=some (.int .i64 qs)∧w'.cell? ⟨(w.heap.size+1),1,none⟩=some (.int .i64 qn)∧w'.cell? ⟨(w.heap.size+1),2,none⟩=some (.int .i64 pt)∧w'.cell? ⟨(w.heap.size+1),3,none⟩=some (.int .i64 qc)∧w'.cell? ⟨(w.heap.size+1),4,none⟩=some (.int .i64 qg)∧w'.cell? ⟨(w.heap.size+1),5,none⟩=some (.string qd)∧w.heap.size+1<w'.heap.size∧bA w'∧Below w.heap.size w w') (by kernel_rfl) (pJ SS) (fun hHeld=>?_)
   refine wpAnyH_take (i:=0) (v:=?_) rfl (by kernel_rfl) (by kernel_rfl) (by kernel_rfl) (fun _ _ _ h=>h) (Or.inl ⟨rfl,?_⟩) (by assumption) ?_
   rotate_left
   ·intro w hSw
    go_simp
    try with_reducible rfl
   try simp only [Act.put,aj]
   refine wpAnyH_take (i:=2) (v:=?_) rfl (by kernel_rfl) (by kernel_rfl) (by kernel_rfl) (fun _ _ _ h=>h) (Or.inl ⟨rfl,?_⟩) (by assumption) ?_
   rotate_left
   ·intro w hSw
    go_simp
    try with_reducible rfl
   try simp only [Act.put,aj]
   refine wpAnyH_ready (rs:=[1]) (by kernel_rfl) (by simp) ?_
   refine AllReadyH.cons rfl (fun K hK=>?_) AllReadyH.nil
   go_simp
   refine (IA.out _ (gT (by assumption))).mono ?_;rintro e w1 ⟨rfl,hb1⟩
   go_wp2_with fail
   refine hK.out _ _ (dY (by assumption) hb1) (fun hHeld=>?_)
   clear hK K
   try simp only [Act.put,aj]
   refine wpAnyH_ready (rs:=[3]) (by kernel_rfl) (by simp) ?_
   refine AllReadyH.cons rfl (fun K hK=>?_) AllReadyH.nil
   go_simp
   refine (IB.out _ (gT (by assumption))).mono ?_;rintro e w2 ⟨rfl,hb2⟩
   go_wp2_with fail
   refine hK.out _ _ (dY (by assumption) hb2) (fun hHeld=>?_)
   clear hK K
   try simp only [Act.put,aj]
   refine wpAnyH_take (i:=4) (v:=?_) rfl (by kernel_rfl) (by kernel_rfl) (by kernel_rfl) (fun _ _ _ h=>h) (Or.inl ⟨rfl,?_⟩) (by assumption) ?_
   rotate_left
   ·intro w hSw
    go_simp
    try with_reducible rfl
   try simp only [Act.put,aj]
   refine wpAnyH_take (i:=5) (v:=?_) rfl (by kernel_rfl) (by kernel_rfl) (by kernel_rfl) (fun _ _ _ h=>h) (Or.inl ⟨rfl,?_⟩) (by assumption) ?_
   rotate_left
   ·intro w hSw
    go_simp
    try with_reducible rfl
   try simp only [Act.put,aj]
   refine wpAnyH_done (by kernel_rfl) (NoPanic.normal ?_) _
   have hf:w2.cell? ⟨w.heap.size,0,none⟩=some (.int .i64 ps)∧w2.cell? ⟨w.heap.size,1,none⟩=some (.int .i64 pn)∧w2.cell? ⟨w.heap.size,2,none⟩=some (.int .i64 pt)∧w2.cell? ⟨w.heap.size,3,none⟩=some (.int .i64 pc)∧w2.cell? ⟨w.heap.size,4,none⟩=some (.int .i64 pg)∧w2.cell? ⟨w.heap.size,5,none⟩=some (.string pd)∧w2.cell? ⟨(w.heap.size+1),0,none⟩=some (.int .i64 qs)∧w2.cell? ⟨(w.heap.size+1),1,none⟩=some (.int .i64 qn)∧w2.cell? ⟨(w.heap.size+1),2,none⟩=some (.int .i64 pt)∧w2.cell? ⟨(w.heap.size+1),3,none⟩=some (.int .i64 qc)∧w2.cell? ⟨(w.heap.size+1),4,none⟩=some (.int .i64 qg)∧w2.cell? ⟨(w.heap.size+1),5,none⟩=some (.string qd)∧w.heap.size+1<w2.heap.size∧bA w2∧Below w.heap.size w w2:=by assumption
   clear hHeld
   obtain ⟨c0,c1,c2,c3,c4,c5,c6,c7,c8,c9,c10,c11,hz,hMW,hbel⟩:=hf
   go_wp2_with fail
   go_ret
   exact ⟨by rw [HV.out];rfl,hbel⟩
 ·have b1:(pt != qt)=true:=by simpa using c1
  rw [if_pos (by simpa using c1)] at HV
  go_enter Tryz.func211,Tryz.ntmps211
  go_wp2_with fail
  rw [← hW]
  go_ret
  exact ⟨by rw [HV.out];rfl,SS.2.2.2.2.2.2.2.2.2.2.2.2.2.2⟩
end Go.Proofs.YtdbjakibneeeiaaGreatDoor.txn

