/- Layer 4 (txn: takeNumbers), by contract. -/
import Derived.Test.YtdbjakibneeeiaaGreatDoorKTxnEnc
import Derived.Test.YtdbjakibneeeiaaGreatDoorKTxnREnc
set_option linter.all false
set_option maxHeartbeats 4000000
set_option maxRecDepth 100000
namespace Go.Proofs.YtdbjakibneeeiaaGreatDoor.txn
open Go.RowKit cE
def kU (s:List UInt8):Option ((Nat×Nat×Nat×Nat×Nat)×List UInt8):=
 (aG s 255).bind fun p0=>(aG p0.2 4294967295).bind fun p1=>(aG p1.2 1099511627776).bind fun p2=>(aG p2.2 1099511627776).bind fun p3=>(aG p3.2 1073741824).bind fun p4=>
  some ((p0.1,p1.1,p2.1,p3.1,p4.1),p4.2)
def gy:Option ((Nat×Nat×Nat×Nat×Nat)×List UInt8)→Value
 | none=>.tuple #[.agg #[.int .i64 0,.int .i64 0,.int .i64 0,.int .i64 0,.int .i64 0],.string ⟨#[]⟩,.bool false]
 | some ((a,b,c,d,e),r)=>.tuple #[.agg #[.int .i64 a,.int .i64 b,.int .i64 c,.int .i64 d,.int .i64 e],.string ⟨r.toArray⟩,.bool true]
def uL (w:World) (b:Nat) (l:List Value):Prop:=w.heap[b]?=some (.cells l.toArray 205 (0,0))
def uL.lt {w:World} {b:Nat} {l:List Value} (h:uL w b l):b<w.heap.size:=by
 unfold uL at h
 exact (Array.getElem?_eq_some_iff.1 h).1
def uL.later {w w':World} {b:Nat} {l:List Value} (h:uL w b l) (k:Below w.heap.size w w'):uL w' b l:=(k.block b h.lt).trans h
def uL.cell {w:World} {b:Nat} {l:List Value} (h:uL w b l) (i:Nat) (v:Value) (hi:l[i]?=some v):w.cell? ⟨b,i,none⟩=some v:=by
 unfold uL at h
 simp only [World.cell?,h]
 simpa using hi
def uL.fL {w:World} {b:Nat} {l:List Value} (h:uL w b l) (i:Nat):w.frozen? ⟨b,i,none⟩=false:=by
 unfold uL at h
 simp [World.frozen?,h]
def uL.put {w:World} {b:Nat} {l:List Value} (h:uL w b l) (i:Nat) (v:Value):uL (w.setCell ⟨b,i,none⟩ v) b (l.set i v):=by
 unfold uL at h ⊢
 rw [heap_setCell_same w b i _ _ v h]
 simp
def uL.aside {w:World} {b:Nat} {l:List Value} (h:uL w b l) (b' i:Nat) (hb:b'≠b) (v:Value):uL (w.setCell ⟨b',i,none⟩ v) b l:=by
 unfold uL at h ⊢
 rw [Below.heap_setCell w _ v b (by simpa using hb.symm)]
 exact h
def vals (l:List Int):List Value:=l.map (Value.int .i64)
def fO (w:World) (hM:bA w):∃w0,w0=(w.alloc (.cells #[.int .i64 0,.int .i64 0,.int .i64 0,.int .i64 0,.int .i64 0] 205 (0,0))).alloc (.cells #[.int .i64 0,.int .i64 0,.int .i64 0,.int .i64 0,.int .i64 0] 205 (0,0))∧
  Below w.heap.size w w0∧bA w0∧uL w0 w.heap.size (vals [0,0,0,0,0])∧uL w0 (w.heap.size+1) (vals [0,0,0,0,0]):=by
 have hb:Below w.heap.size w ((w.alloc (.cells #[.int .i64 0,.int .i64 0,.int .i64 0,.int .i64 0,.int .i64 0] 205 (0,0))).alloc (.cells #[.int .i64 0,.int .i64 0,.int .i64 0,.int .i64 0,.int .i64 0] 205 (0,0))):=laid (laid (Below.refl _ _) _) _
 refine ⟨_,rfl,hb,hM.later hb,?_,?_⟩
 ·show ((w.heap.push _).push _)[w.heap.size]?=_
  simp [vals,Array.getElem?_push]
 ·have e:∀(a:Array Obj) (x y:Obj),((a.push x).push y)[a.size+1]?=some y:=fun a x y=>by
   have:=Array.getElem?_push_size (xs:=a.push x) (x:=y)
   rwa [Array.size_push] at this
  exact e _ _ _
def cA {w:World} (h:bA w) (b i:Nat) (hb:0<b) (v:Value):bA (w.setCell ⟨b,i,none⟩ v):=by
 have e:∀j,(w.setCell ⟨b,i,none⟩ v).cell? ⟨0,j,none⟩=w.cell? ⟨0,j,none⟩:=fun j=>
  World.cell?_of_block (w:=w) (Below.heap_setCell w _ v 0 (by simp;omega))
 obtain ⟨h0,h1,h2,h3,h4,hz⟩:=h
 exact ⟨(e 0).trans h0,(e 1).trans h1,(e 2).trans h2,(e 3).trans h3,(e 4).trans h4,Nat.lt_of_lt_of_le hz ((Below.refl 0 w).setCell (p:=⟨b,i,none⟩) (Nat.zero_le _) v).size⟩
def JZ (s:ByteArray) (w:World) (hM:bA w) (hs:s.size≤maxLen) (h0:aG s.data.toList 255=none) :
  Calls Tryz.prog 161 #[.string s] w fun e w'=>e=.returned (gy none)∧Below w.heap.size w w':=by
 have N0:=Lib.hid (fun w=>aJ s 255 w hs)
 rw [h0] at N0
 simp only [bY] at N0
 obtain ⟨w0,hw0,hbel,hM0,R,T⟩:=fO w hM
 clear h0
 go_enter Tryz.func161,Tryz.ntmps161
 go_wp2_with fail
 rw [← hw0]
 clear hw0
 refine wp_loop_rounds 6 ?_
 rw [rounds_succ]
 have m0:=hM0.1
 go_wp2_with fail
 refine (N0.out _).mono ?_
 rintro e w1 ⟨rfl,hb1⟩
 clear m0
 have hM0:=hM0.later hb1
 have R:=R.later hb1
 have T:=T.later hb1
 have hbel:=later hbel hb1
 clear hb1
 have fz:=R.fL
 have z0:=R.cell 0 (.int .i64 0) rfl
 have z1:=R.cell 1 (.int .i64 0) rfl
 have z2:=R.cell 2 (.int .i64 0) rfl
 have z3:=R.cell 3 (.int .i64 0) rfl
 have z4:=R.cell 4 (.int .i64 0) rfl
 go_wp2_with fail
 have R:=((((R.put 0 (.int .i64 0)).put 1 (.int .i64 0)).put 2 (.int .i64 0)).put 3 (.int .i64 0)).put 4 (.int .i64 0)
 have hbel:=((((hbel.setCell (p:=⟨w.heap.size,0,none⟩) (Nat.le_refl _) (.int .i64 0)).setCell (p:=⟨w.heap.size,1,none⟩) (Nat.le_refl _) (.int .i64 0)).setCell (p:=⟨w.heap.size,2,none⟩) (Nat.le_refl _) (.int .i64 0)).setCell (p:=⟨w.heap.size,3,none⟩) (Nat.le_refl _) (.int .i64 0)).setCell (p:=⟨w.heap.size,4,none⟩) (Nat.le_refl _) (.int .i64 0)
 clear fz z0 z1 z2 z3 z4
 have z0:=R.cell 0 (.int .i64 0) rfl
 have z1:=R.cell 1 (.int .i64 0) rfl
 have z2:=R.cell 2 (.int .i64 0) rfl
 have z3:=R.cell 3 (.int .i64 0) rfl
 have z4:=R.cell 4 (.int .i64 0) rfl
 refine bodyPost_ret (v:=gy none) (by simp [results,Tryz.results161,go_sem,gy,z0,z1,z2,z3,z4]) rfl ⟨rfl,hbel⟩
def Ko (s:ByteArray) (k0:Nat) (r0:List UInt8) (w:World) (hM:bA w) (hs:s.size≤maxLen) (h0:aG s.data.toList 255=some (k0,r0)) (h1:aG r0 4294967295=none) :
  Calls Tryz.prog 161 #[.string s] w fun e w'=>e=.returned (gy none)∧Below w.heap.size w w':=by
 have N0:=Lib.hid (fun w=>aJ s 255 w hs)
 rw [h0] at N0
 simp only [bY] at N0
 have hl0:r0.length≤maxLen:=by
  have e:=(b7 _ _ _ _ h0).1
  have e2:=congrArg List.length e
  rw [List.length_append] at e2
  have e3:s.data.toList.length=s.size:=by simp
  omega
 have N1:=Lib.hid (fun w=>aJ ⟨r0.toArray⟩ 4294967295 w hl0)
 simp only [] at N1
 rw [h1] at N1
 simp only [bY] at N1
 obtain ⟨w0,hw0,hbel,hM0,R,T⟩:=fO w hM
 clear h0 h1
 go_enter Tryz.func161,Tryz.ntmps161
 go_wp2_with fail
 rw [← hw0]
 clear hw0
 refine wp_loop_rounds 6 ?_
 rw [rounds_succ]
 have m0:=hM0.1
 go_wp2_with fail
 refine (N0.out _).mono ?_
 rintro e w1 ⟨rfl,hb1⟩
 clear m0
 have hM0:=hM0.later hb1
 have R:=R.later hb1
 have T:=T.later hb1
 have hbel:=later hbel hb1
 clear hb1
 have fz:=T.fL 0
 have z:=T.cell 0 (.int .i64 0) rfl
 go_wp2_with fail
 have hM0:=cA hM0 (w.heap.size+1) 0 (by have:=hM.2.2.2.2.2;omega) (.int .i64 k0)
 have R:=R.aside (w.heap.size+1) 0 (by omega) (.int .i64 k0)
 have T:=T.put 0 (.int .i64 k0)
 have hbel:=hbel.setCell (p:=⟨w.heap.size+1,0,none⟩) (by show w.heap.size≤w.heap.size+1;omega) (.int .i64 k0)
 clear fz z
 generalize w1.setCell ⟨w.heap.size+1,0,none⟩ (.int .i64 k0)=w2 at R T hbel hM0 ⊢
 rw [rounds_succ]
 have m1:=hM0.2.1
 go_wp2_with fail
 refine (N1.out _).mono ?_
 rintro e w1 ⟨rfl,hb1⟩
 clear m1
 have hM0:=hM0.later hb1
 have R:=R.later hb1
 have T:=T.later hb1
 have hbel:=later hbel hb1
 clear hb1
 have fz:=R.fL
 have z0:=R.cell 0 (.int .i64 0) rfl
 have z1:=R.cell 1 (.int .i64 0) rfl
 have z2:=R.cell 2 (.int .i64 0) rfl
 have z3:=R.cell 3 (.int .i64 0) rfl
 have z4:=R.cell 4 (.int .i64 0) rfl
 go_wp2_with fail
 have R:=((((R.put 0 (.int .i64 0)).put 1 (.int .i64 0)).put 2 (.int .i64 0)).put 3 (.int .i64 0)).put 4 (.int .i64 0)
 have hbel:=((((hbel.setCell (p:=⟨w.heap.size,0,none⟩) (Nat.le_refl _) (.int .i64 0)).setCell (p:=⟨w.heap.size,1,none⟩) (Nat.le_refl _) (.int .i64 0)).setCell (p:=⟨w.heap.size,2,none⟩) (Nat.le_refl _) (.int .i64 0)).setCell (p:=⟨w.heap.size,3,none⟩) (Nat.le_refl _) (.int .i64 0)).setCell (p:=⟨w.heap.size,4,none⟩) (Nat.le_refl _) (.int .i64 0)
 clear fz z0 z1 z2 z3 z4
 have z0:=R.cell 0 (.int .i64 0) rfl
 have z1:=R.cell 1 (.int .i64 0) rfl
 have z2:=R.cell 2 (.int .i64 0) rfl
 have z3:=R.cell 3 (.int .i64 0) rfl
 have z4:=R.cell 4 (.int .i64 0) rfl
 refine bodyPost_ret (v:=gy none) (by simp [results,Tryz.results161,go_sem,gy,z0,z1,z2,z3,z4]) rfl ⟨rfl,hbel⟩
def JU (s:ByteArray) (k0:Nat) (r0:List UInt8) (k1:Nat) (r1:List UInt8) (w:World) (hM:bA w) (hs:s.size≤maxLen) (h0:aG s.data.toList 255=some (k0,r0)) (h1:aG r0 4294967295=some (k1,r1)) (h2:aG r1 1099511627776=none) :
  Calls Tryz.prog 161 #[.string s] w fun e w'=>e=.returned (gy none)∧Below w.heap.size w w':=by
 have N0:=Lib.hid (fun w=>aJ s 255 w hs)
 rw [h0] at N0
 simp only [bY] at N0
 have hl0:r0.length≤maxLen:=by
  have e:=(b7 _ _ _ _ h0).1
  have e2:=congrArg List.length e
  rw [List.length_append] at e2
  have e3:s.data.toList.length=s.size:=by simp
  omega
 have N1:=Lib.hid (fun w=>aJ ⟨r0.toArray⟩ 4294967295 w hl0)
 simp only [] at N1
 rw [h1] at N1
 simp only [bY] at N1
 have hl1:r1.length≤maxLen:=by
  have e:=(b7 _ _ _ _ h1).1
  have e2:=congrArg List.length e
  rw [List.length_append] at e2
  omega
 have N2:=Lib.hid (fun w=>aJ ⟨r1.toArray⟩ 1099511627776 w hl1)
 simp only [] at N2
 rw [h2] at N2
 simp only [bY] at N2
 obtain ⟨w0,hw0,hbel,hM0,R,T⟩:=fO w hM
 clear h0 h1 h2
 go_enter Tryz.func161,Tryz.ntmps161
 go_wp2_with fail
 rw [← hw0]
 clear hw0
 refine wp_loop_rounds 6 ?_
 rw [rounds_succ]
 have m0:=hM0.1
 go_wp2_with fail
 refine (N0.out _).mono ?_
 rintro e w1 ⟨rfl,hb1⟩
 clear m0
 have hM0:=hM0.later hb1
 have R:=R.later hb1
 have T:=T.later hb1
 have hbel:=later hbel hb1
 clear hb1
 have fz:=T.fL 0
 have z:=T.cell 0 (.int .i64 0) rfl
 go_wp2_with fail
 have hM0:=cA hM0 (w.heap.size+1) 0 (by have:=hM.2.2.2.2.2;omega) (.int .i64 k0)
 have R:=R.aside (w.heap.size+1) 0 (by omega) (.int .i64 k0)
 have T:=T.put 0 (.int .i64 k0)
 have hbel:=hbel.setCell (p:=⟨w.heap.size+1,0,none⟩) (by show w.heap.size≤w.heap.size+1;omega) (.int .i64 k0)
 clear fz z
 generalize w1.setCell ⟨w.heap.size+1,0,none⟩ (.int .i64 k0)=w2 at R T hbel hM0 ⊢
 rw [rounds_succ]
 have m1:=hM0.2.1
 go_wp2_with fail
 refine (N1.out _).mono ?_
 rintro e w1 ⟨rfl,hb1⟩
 clear m1
 have hM0:=hM0.later hb1
 have R:=R.later hb1
 have T:=T.later hb1
 have hbel:=later hbel hb1
 clear hb1
 have fz:=T.fL 1
 have z:=T.cell 1 (.int .i64 0) rfl
 go_wp2_with fail
 have hM0:=cA hM0 (w.heap.size+1) 1 (by have:=hM.2.2.2.2.2;omega) (.int .i64 k1)
 have R:=R.aside (w.heap.size+1) 1 (by omega) (.int .i64 k1)
 have T:=T.put 1 (.int .i64 k1)
 have hbel:=hbel.setCell (p:=⟨w.heap.size+1,1,none⟩) (by show w.heap.size≤w.heap.size+1;omega) (.int .i64 k1)
 clear fz z
 generalize w1.setCell ⟨w.heap.size+1,1,none⟩ (.int .i64 k1)=w2 at R T hbel hM0 ⊢
 rw [rounds_succ]
 have m2:=hM0.2.2.1
 go_wp2_with fail
 refine (N2.out _).mono ?_
 rintro e w1 ⟨rfl,hb1⟩
 clear m2
 have hM0:=hM0.later hb1
 have R:=R.later hb1
 have T:=T.later hb1
 have hbel:=later hbel hb1
 clear hb1
 have fz:=R.fL
 have z0:=R.cell 0 (.int .i64 0) rfl
 have z1:=R.cell 1 (.int .i64 0) rfl
 have z2:=R.cell 2 (.int .i64 0) rfl
 have z3:=R.cell 3 (.int .i64 0) rfl
 have z4:=R.cell 4 (.int .i64 0) rfl
 go_wp2_with fail
 have R:=((((R.put 0 (.int .i64 0)).put 1 (.int .i64 0)).put 2 (.int .i64 0)).put 3 (.int .i64 0)).put 4 (.int .i64 0)
 have hbel:=((((hbel.setCell (p:=⟨w.heap.size,0,none⟩) (Nat.le_refl _) (.int .i64 0)).setCell (p:=⟨w.heap.size,1,none⟩) (Nat.le_refl _) (.int .i64 0)).setCell (p:=⟨w.heap.size,2,none⟩) (Nat.le_refl _) (.int .i64 0)).setCell (p:=⟨w.heap.size,3,none⟩) (Nat.le_refl _) (.int .i64 0)).setCell (p:=⟨w.heap.size,4,none⟩) (Nat.le_refl _) (.int .i64 0)
 clear fz z0 z1 z2 z3 z4
 have z0:=R.cell 0 (.int .i64 0) rfl
 have z1:=R.cell 1 (.int .i64 0) rfl
 have z2:=R.cell 2 (.int .i64 0) rfl
 have z3:=R.cell 3 (.int .i64 0) rfl
 have z4:=R.cell 4 (.int .i64 0) rfl
 refine bodyPost_ret (v:=gy none) (by simp [results,Tryz.results161,go_sem,gy,z0,z1,z2,z3,z4]) rfl ⟨rfl,hbel⟩
def Kl (s:ByteArray) (k0:Nat) (r0:List UInt8) (k1:Nat) (r1:List UInt8) (k2:Nat) (r2:List UInt8) (w:World) (hM:bA w) (hs:s.size≤maxLen) (h0:aG s.data.toList 255=some (k0,r0)) (h1:aG r0 4294967295=some (k1,r1)) (h2:aG r1 1099511627776=some (k2,r2)) (h3:aG r2 1099511627776=none) :
  Calls Tryz.prog 161 #[.string s] w fun e w'=>e=.returned (gy none)∧Below w.heap.size w w':=by
 have N0:=Lib.hid (fun w=>aJ s 255 w hs)
 rw [h0] at N0
 simp only [bY] at N0
 have hl0:r0.length≤maxLen:=by
  have e:=(b7 _ _ _ _ h0).1
  have e2:=congrArg List.length e
  rw [List.length_append] at e2
  have e3:s.data.toList.length=s.size:=by simp
  omega
 have N1:=Lib.hid (fun w=>aJ ⟨r0.toArray⟩ 4294967295 w hl0)
 simp only [] at N1
 rw [h1] at N1
 simp only [bY] at N1
 have hl1:r1.length≤maxLen:=by
  have e:=(b7 _ _ _ _ h1).1
  have e2:=congrArg List.length e
  rw [List.length_append] at e2
  omega
 have N2:=Lib.hid (fun w=>aJ ⟨r1.toArray⟩ 1099511627776 w hl1)
 simp only [] at N2
 rw [h2] at N2
 simp only [bY] at N2
 have hl2:r2.length≤maxLen:=by
  have e:=(b7 _ _ _ _ h2).1
  have e2:=congrArg List.length e
  rw [List.length_append] at e2
  omega
 have N3:=Lib.hid (fun w=>aJ ⟨r2.toArray⟩ 1099511627776 w hl2)
 simp only [] at N3
 rw [h3] at N3
 simp only [bY] at N3
 obtain ⟨w0,hw0,hbel,hM0,R,T⟩:=fO w hM
 clear h0 h1 h2 h3
 go_enter Tryz.func161,Tryz.ntmps161
 go_wp2_with fail
 rw [← hw0]
 clear hw0
 refine wp_loop_rounds 6 ?_
 rw [rounds_succ]
 have m0:=hM0.1
 go_wp2_with fail
 refine (N0.out _).mono ?_
 rintro e w1 ⟨rfl,hb1⟩
 clear m0
 have hM0:=hM0.later hb1
 have R:=R.later hb1
 have T:=T.later hb1
 have hbel:=later hbel hb1
 clear hb1
 have fz:=T.fL 0
 have z:=T.cell 0 (.int .i64 0) rfl
 go_wp2_with fail
 have hM0:=cA hM0 (w.heap.size+1) 0 (by have:=hM.2.2.2.2.2;omega) (.int .i64 k0)
 have R:=R.aside (w.heap.size+1) 0 (by omega) (.int .i64 k0)
 have T:=T.put 0 (.int .i64 k0)
 have hbel:=hbel.setCell (p:=⟨w.heap.size+1,0,none⟩) (by show w.heap.size≤w.heap.size+1;omega) (.int .i64 k0)
 clear fz z
 generalize w1.setCell ⟨w.heap.size+1,0,none⟩ (.int .i64 k0)=w2 at R T hbel hM0 ⊢
 rw [rounds_succ]
 have m1:=hM0.2.1
 go_wp2_with fail
 refine (N1.out _).mono ?_
 rintro e w1 ⟨rfl,hb1⟩
 clear m1
 have hM0:=hM0.later hb1
 have R:=R.later hb1
 have T:=T.later hb1
 have hbel:=later hbel hb1
 clear hb1
 have fz:=T.fL 1
 have z:=T.cell 1 (.int .i64 0) rfl
 go_wp2_with fail
 have hM0:=cA hM0 (w.heap.size+1) 1 (by have:=hM.2.2.2.2.2;omega) (.int .i64 k1)
 have R:=R.aside (w.heap.size+1) 1 (by omega) (.int .i64 k1)
 have T:=T.put 1 (.int .i64 k1)
 have hbel:=hbel.setCell (p:=⟨w.heap.size+1,1,none⟩) (by show w.heap.size≤w.heap.size+1;omega) (.int .i64 k1)
 clear fz z
 generalize w1.setCell ⟨w.heap.size+1,1,none⟩ (.int .i64 k1)=w2 at R T hbel hM0 ⊢
 rw [rounds_succ]
 have m2:=hM0.2.2.1
 go_wp2_with fail
 refine (N2.out _).mono ?_
 rintro e w1 ⟨rfl,hb1⟩
 clear m2
 have hM0:=hM0.later hb1
 have R:=R.later hb1
 have T:=T.later hb1
 have hbel:=later hbel hb1
 clear hb1
 have fz:=T.fL 2
 have z:=T.cell 2 (.int .i64 0) rfl
 go_wp2_with fail
 have hM0:=cA hM0 (w.heap.size+1) 2 (by have:=hM.2.2.2.2.2;omega) (.int .i64 k2)
 have R:=R.aside (w.heap.size+1) 2 (by omega) (.int .i64 k2)
 have T:=T.put 2 (.int .i64 k2)
 have hbel:=hbel.setCell (p:=⟨w.heap.size+1,2,none⟩) (by show w.heap.size≤w.heap.size+1;omega) (.int .i64 k2)
 clear fz z
 generalize w1.setCell ⟨w.heap.size+1,2,none⟩ (.int .i64 k2)=w2 at R T hbel hM0 ⊢
 rw [rounds_succ]
 have m3:=hM0.2.2.2.1
 go_wp2_with fail
 refine (N3.out _).mono ?_
 rintro e w1 ⟨rfl,hb1⟩
 clear m3
 have hM0:=hM0.later hb1
 have R:=R.later hb1
 have T:=T.later hb1
 have hbel:=later hbel hb1
 clear hb1
 have fz:=R.fL
 have z0:=R.cell 0 (.int .i64 0) rfl
 have z1:=R.cell 1 (.int .i64 0) rfl
 have z2:=R.cell 2 (.int .i64 0) rfl
 have z3:=R.cell 3 (.int .i64 0) rfl
 have z4:=R.cell 4 (.int .i64 0) rfl
 go_wp2_with fail
 have R:=((((R.put 0 (.int .i64 0)).put 1 (.int .i64 0)).put 2 (.int .i64 0)).put 3 (.int .i64 0)).put 4 (.int .i64 0)
 have hbel:=((((hbel.setCell (p:=⟨w.heap.size,0,none⟩) (Nat.le_refl _) (.int .i64 0)).setCell (p:=⟨w.heap.size,1,none⟩) (Nat.le_refl _) (.int .i64 0)).setCell (p:=⟨w.heap.size,2,none⟩) (Nat.le_refl _) (.int .i64 0)).setCell (p:=⟨w.heap.size,3,none⟩) (Nat.le_refl _) (.int .i64 0)).setCell (p:=⟨w.heap.size,4,none⟩) (Nat.le_refl _) (.int .i64 0)
 clear fz z0 z1 z2 z3 z4
 have z0:=R.cell 0 (.int .i64 0) rfl
 have z1:=R.cell 1 (.int .i64 0) rfl
 have z2:=R.cell 2 (.int .i64 0) rfl
 have z3:=R.cell 3 (.int .i64 0) rfl
 have z4:=R.cell 4 (.int .i64 0) rfl
 refine bodyPost_ret (v:=gy none) (by simp [results,Tryz.results161,go_sem,gy,z0,z1,z2,z3,z4]) rfl ⟨rfl,hbel⟩
def Lz (s:ByteArray) (k0:Nat) (r0:List UInt8) (k1:Nat) (r1:List UInt8) (k2:Nat) (r2:List UInt8) (k3:Nat) (r3:List UInt8) (w:World) (hM:bA w) (hs:s.size≤maxLen) (h0:aG s.data.toList 255=some (k0,r0)) (h1:aG r0 4294967295=some (k1,r1)) (h2:aG r1 1099511627776=some (k2,r2)) (h3:aG r2 1099511627776=some (k3,r3)) (h4:aG r3 1073741824=none) :
  Calls Tryz.prog 161 #[.string s] w fun e w'=>e=.returned (gy none)∧Below w.heap.size w w':=by
 have N0:=Lib.hid (fun w=>aJ s 255 w hs)
 rw [h0] at N0
 simp only [bY] at N0
 have hl0:r0.length≤maxLen:=by
  have e:=(b7 _ _ _ _ h0).1
  have e2:=congrArg List.length e
  rw [List.length_append] at e2
  have e3:s.data.toList.length=s.size:=by simp
  omega
 have N1:=Lib.hid (fun w=>aJ ⟨r0.toArray⟩ 4294967295 w hl0)
 simp only [] at N1
 rw [h1] at N1
 simp only [bY] at N1
 have hl1:r1.length≤maxLen:=by
  have e:=(b7 _ _ _ _ h1).1
  have e2:=congrArg List.length e
  rw [List.length_append] at e2
  omega
 have N2:=Lib.hid (fun w=>aJ ⟨r1.toArray⟩ 1099511627776 w hl1)
 simp only [] at N2
 rw [h2] at N2
 simp only [bY] at N2
 have hl2:r2.length≤maxLen:=by
  have e:=(b7 _ _ _ _ h2).1
  have e2:=congrArg List.length e
  rw [List.length_append] at e2
  omega
 have N3:=Lib.hid (fun w=>aJ ⟨r2.toArray⟩ 1099511627776 w hl2)
 simp only [] at N3
 rw [h3] at N3
 simp only [bY] at N3
 have hl3:r3.length≤maxLen:=by
  have e:=(b7 _ _ _ _ h3).1
  have e2:=congrArg List.length e
  rw [List.length_append] at e2
  omega
 have N4:=Lib.hid (fun w=>aJ ⟨r3.toArray⟩ 1073741824 w hl3)
 simp only [] at N4
 rw [h4] at N4
 simp only [bY] at N4
 obtain ⟨w0,hw0,hbel,hM0,R,T⟩:=fO w hM
 clear h0 h1 h2 h3 h4
 go_enter Tryz.func161,Tryz.ntmps161
 go_wp2_with fail
 rw [← hw0]
 clear hw0
 refine wp_loop_rounds 6 ?_
 rw [rounds_succ]
 have m0:=hM0.1
 go_wp2_with fail
 refine (N0.out _).mono ?_
 rintro e w1 ⟨rfl,hb1⟩
 clear m0
 have hM0:=hM0.later hb1
 have R:=R.later hb1
 have T:=T.later hb1
 have hbel:=later hbel hb1
 clear hb1
 have fz:=T.fL 0
 have z:=T.cell 0 (.int .i64 0) rfl
 go_wp2_with fail
 have hM0:=cA hM0 (w.heap.size+1) 0 (by have:=hM.2.2.2.2.2;omega) (.int .i64 k0)
 have R:=R.aside (w.heap.size+1) 0 (by omega) (.int .i64 k0)
 have T:=T.put 0 (.int .i64 k0)
 have hbel:=hbel.setCell (p:=⟨w.heap.size+1,0,none⟩) (by show w.heap.size≤w.heap.size+1;omega) (.int .i64 k0)
 clear fz z
 generalize w1.setCell ⟨w.heap.size+1,0,none⟩ (.int .i64 k0)=w2 at R T hbel hM0 ⊢
 rw [rounds_succ]
 have m1:=hM0.2.1
 go_wp2_with fail
 refine (N1.out _).mono ?_
 rintro e w1 ⟨rfl,hb1⟩
 clear m1
 have hM0:=hM0.later hb1
 have R:=R.later hb1
 have T:=T.later hb1
 have hbel:=later hbel hb1
 clear hb1
 have fz:=T.fL 1
 have z:=T.cell 1 (.int .i64 0) rfl
 go_wp2_with fail
 have hM0:=cA hM0 (w.heap.size+1) 1 (by have:=hM.2.2.2.2.2;omega) (.int .i64 k1)
 have R:=R.aside (w.heap.size+1) 1 (by omega) (.int .i64 k1)
 have T:=T.put 1 (.int .i64 k1)
 have hbel:=hbel.setCell (p:=⟨w.heap.size+1,1,none⟩) (by show w.heap.size≤w.heap.size+1;omega) (.int .i64 k1)
 clear fz z
 generalize w1.setCell ⟨w.heap.size+1,1,none⟩ (.int .i64 k1)=w2 at R T hbel hM0 ⊢
 rw [rounds_succ]
 have m2:=hM0.2.2.1
 go_wp2_with fail
 refine (N2.out _).mono ?_
 rintro e w1 ⟨rfl,hb1⟩
 clear m2
 have hM0:=hM0.later hb1
 have R:=R.later hb1
 have T:=T.later hb1
 have hbel:=later hbel hb1
 clear hb1
 have fz:=T.fL 2
 have z:=T.cell 2 (.int .i64 0) rfl
 go_wp2_with fail
 have hM0:=cA hM0 (w.heap.size+1) 2 (by have:=hM.2.2.2.2.2;omega) (.int .i64 k2)
 have R:=R.aside (w.heap.size+1) 2 (by omega) (.int .i64 k2)
 have T:=T.put 2 (.int .i64 k2)
 have hbel:=hbel.setCell (p:=⟨w.heap.size+1,2,none⟩) (by show w.heap.size≤w.heap.size+1;omega) (.int .i64 k2)
 clear fz z
 generalize w1.setCell ⟨w.heap.size+1,2,none⟩ (.int .i64 k2)=w2 at R T hbel hM0 ⊢
 rw [rounds_succ]
 have m3:=hM0.2.2.2.1
 go_wp2_with fail
 refine (N3.out _).mono ?_
 rintro e w1 ⟨rfl,hb1⟩
 clear m3
 have hM0:=hM0.later hb1
 have R:=R.later hb1
 have T:=T.later hb1
 have hbel:=later hbel hb1
 clear hb1
 have fz:=T.fL 3
 have z:=T.cell 3 (.int .i64 0) rfl
 go_wp2_with fail
 have hM0:=cA hM0 (w.heap.size+1) 3 (by have:=hM.2.2.2.2.2;omega) (.int .i64 k3)
 have R:=R.aside (w.heap.size+1) 3 (by omega) (.int .i64 k3)
 have T:=T.put 3 (.int .i64 k3)
 have hbel:=hbel.setCell (p:=⟨w.heap.size+1,3,none⟩) (by show w.heap.size≤w.heap.size+1;omega) (.int .i64 k3)
 clear fz z
 generalize w1.setCell ⟨w.heap.size+1,3,none⟩ (.int .i64 k3)=w2 at R T hbel hM0 ⊢
 rw [rounds_succ]
 have m4:=hM0.2.2.2.2.1
 go_wp2_with fail
 refine (N4.out _).mono ?_
 rintro e w1 ⟨rfl,hb1⟩
 clear m4
 have hM0:=hM0.later hb1
 have R:=R.later hb1
 have T:=T.later hb1
 have hbel:=later hbel hb1
 clear hb1
 have fz:=R.fL
 have z0:=R.cell 0 (.int .i64 0) rfl
 have z1:=R.cell 1 (.int .i64 0) rfl
 have z2:=R.cell 2 (.int .i64 0) rfl
 have z3:=R.cell 3 (.int .i64 0) rfl
 have z4:=R.cell 4 (.int .i64 0) rfl
 go_wp2_with fail
 have R:=((((R.put 0 (.int .i64 0)).put 1 (.int .i64 0)).put 2 (.int .i64 0)).put 3 (.int .i64 0)).put 4 (.int .i64 0)
 have hbel:=((((hbel.setCell (p:=⟨w.heap.size,0,none⟩) (Nat.le_refl _) (.int .i64 0)).setCell (p:=⟨w.heap.size,1,none⟩) (Nat.le_refl _) (.int .i64 0)).setCell (p:=⟨w.heap.size,2,none⟩) (Nat.le_refl _) (.int .i64 0)).setCell (p:=⟨w.heap.size,3,none⟩) (Nat.le_refl _) (.int .i64 0)).setCell (p:=⟨w.heap.size,4,none⟩) (Nat.le_refl _) (.int .i64 0)
 clear fz z0 z1 z2 z3 z4
 have z0:=R.cell 0 (.int .i64 0) rfl
 have z1:=R.cell 1 (.int .i64 0) rfl
 have z2:=R.cell 2 (.int .i64 0) rfl
 have z3:=R.cell 3 (.int .i64 0) rfl
 have z4:=R.cell 4 (.int .i64 0) rfl
 refine bodyPost_ret (v:=gy none) (by simp [results,Tryz.results161,go_sem,gy,z0,z1,z2,z3,z4]) rfl ⟨rfl,hbel⟩
def LG (s:ByteArray) (k0:Nat) (r0:List UInt8) (k1:Nat) (r1:List UInt8) (k2:Nat) (r2:List UInt8) (k3:Nat) (r3:List UInt8) (k4:Nat) (r4:List UInt8) (w:World) (hM:bA w) (hs:s.size≤maxLen) (h0:aG s.data.toList 255=some (k0,r0)) (h1:aG r0 4294967295=some (k1,r1)) (h2:aG r1 1099511627776=some (k2,r2)) (h3:aG r2 1099511627776=some (k3,r3)) (h4:aG r3 1073741824=some (k4,r4)) :
  Calls Tryz.prog 161 #[.string s] w fun e w'=>e=.returned (gy (some ((k0,k1,k2,k3,k4),r4)))∧Below w.heap.size w w':=by
 have N0:=Lib.hid (fun w=>aJ s 255 w hs)
 rw [h0] at N0
 simp only [bY] at N0
 have hl0:r0.length≤maxLen:=by
  have e:=(b7 _ _ _ _ h0).1
  have e2:=congrArg List.length e
  rw [List.length_append] at e2
  have e3:s.data.toList.length=s.size:=by simp
  omega
 have N1:=Lib.hid (fun w=>aJ ⟨r0.toArray⟩ 4294967295 w hl0)
 simp only [] at N1
 rw [h1] at N1
 simp only [bY] at N1
 have hl1:r1.length≤maxLen:=by
  have e:=(b7 _ _ _ _ h1).1
  have e2:=congrArg List.length e
  rw [List.length_append] at e2
  omega
 have N2:=Lib.hid (fun w=>aJ ⟨r1.toArray⟩ 1099511627776 w hl1)
 simp only [] at N2
 rw [h2] at N2
 simp only [bY] at N2
 have hl2:r2.length≤maxLen:=by
  have e:=(b7 _ _ _ _ h2).1
  have e2:=congrArg List.length e
  rw [List.length_append] at e2
  omega
 have N3:=Lib.hid (fun w=>aJ ⟨r2.toArray⟩ 1099511627776 w hl2)
 simp only [] at N3
 rw [h3] at N3
 simp only [bY] at N3
 have hl3:r3.length≤maxLen:=by
  have e:=(b7 _ _ _ _ h3).1
  have e2:=congrArg List.length e
  rw [List.length_append] at e2
  omega
 have N4:=Lib.hid (fun w=>aJ ⟨r3.toArray⟩ 1073741824 w hl3)
 simp only [] at N4
 rw [h4] at N4
 simp only [bY] at N4
 obtain ⟨w0,hw0,hbel,hM0,R,T⟩:=fO w hM
 clear h0 h1 h2 h3 h4
 go_enter Tryz.func161,Tryz.ntmps161
 go_wp2_with fail
 rw [← hw0]
 clear hw0
 refine wp_loop_rounds 6 ?_
 rw [rounds_succ]
 have m0:=hM0.1
 go_wp2_with fail
 refine (N0.out _).mono ?_
 rintro e w1 ⟨rfl,hb1⟩
 clear m0
 have hM0:=hM0.later hb1
 have R:=R.later hb1
 have T:=T.later hb1
 have hbel:=later hbel hb1
 clear hb1
 have fz:=T.fL 0
 have z:=T.cell 0 (.int .i64 0) rfl
 go_wp2_with fail
 have hM0:=cA hM0 (w.heap.size+1) 0 (by have:=hM.2.2.2.2.2;omega) (.int .i64 k0)
 have R:=R.aside (w.heap.size+1) 0 (by omega) (.int .i64 k0)
 have T:=T.put 0 (.int .i64 k0)
 have hbel:=hbel.setCell (p:=⟨w.heap.size+1,0,none⟩) (by show w.heap.size≤w.heap.size+1;omega) (.int .i64 k0)
 clear fz z
 generalize w1.setCell ⟨w.heap.size+1,0,none⟩ (.int .i64 k0)=w2 at R T hbel hM0 ⊢
 rw [rounds_succ]
 have m1:=hM0.2.1
 go_wp2_with fail
 refine (N1.out _).mono ?_
 rintro e w1 ⟨rfl,hb1⟩
 clear m1
 have hM0:=hM0.later hb1
 have R:=R.later hb1
 have T:=T.later hb1
 have hbel:=later hbel hb1
 clear hb1
 have fz:=T.fL 1
 have z:=T.cell 1 (.int .i64 0) rfl
 go_wp2_with fail
 have hM0:=cA hM0 (w.heap.size+1) 1 (by have:=hM.2.2.2.2.2;omega) (.int .i64 k1)
 have R:=R.aside (w.heap.size+1) 1 (by omega) (.int .i64 k1)
 have T:=T.put 1 (.int .i64 k1)
 have hbel:=hbel.setCell (p:=⟨w.heap.size+1,1,none⟩) (by show w.heap.size≤w.heap.size+1;omega) (.int .i64 k1)
 clear fz z
 generalize w1.setCell ⟨w.heap.size+1,1,none⟩ (.int .i64 k1)=w2 at R T hbel hM0 ⊢
 rw [rounds_succ]
 have m2:=hM0.2.2.1
 go_wp2_with fail
 refine (N2.out _).mono ?_
 rintro e w1 ⟨rfl,hb1⟩
 clear m2
 have hM0:=hM0.later hb1
 have R:=R.later hb1
 have T:=T.later hb1
 have hbel:=later hbel hb1
 clear hb1
 have fz:=T.fL 2
 have z:=T.cell 2 (.int .i64 0) rfl
 go_wp2_with fail
 have hM0:=cA hM0 (w.heap.size+1) 2 (by have:=hM.2.2.2.2.2;omega) (.int .i64 k2)
 have R:=R.aside (w.heap.size+1) 2 (by omega) (.int .i64 k2)
 have T:=T.put 2 (.int .i64 k2)
 have hbel:=hbel.setCell (p:=⟨w.heap.size+1,2,none⟩) (by show w.heap.size≤w.heap.size+1;omega) (.int .i64 k2)
 clear fz z
 generalize w1.setCell ⟨w.heap.size+1,2,none⟩ (.int .i64 k2)=w2 at R T hbel hM0 ⊢
 rw [rounds_succ]
 have m3:=hM0.2.2.2.1
 go_wp2_with fail
 refine (N3.out _).mono ?_
 rintro e w1 ⟨rfl,hb1⟩
 clear m3
 have hM0:=hM0.later hb1
 have R:=R.later hb1
 have T:=T.later hb1
 have hbel:=later hbel hb1
 clear hb1
 have fz:=T.fL 3
 have z:=T.cell 3 (.int .i64 0) rfl
 go_wp2_with fail
 have hM0:=cA hM0 (w.heap.size+1) 3 (by have:=hM.2.2.2.2.2;omega) (.int .i64 k3)
 have R:=R.aside (w.heap.size+1) 3 (by omega) (.int .i64 k3)
 have T:=T.put 3 (.int .i64 k3)
 have hbel:=hbel.setCell (p:=⟨w.heap.size+1,3,none⟩) (by show w.heap.size≤w.heap.size+1;omega) (.int .i64 k3)
 clear fz z
 generalize w1.setCell ⟨w.heap.size+1,3,none⟩ (.int .i64 k3)=w2 at R T hbel hM0 ⊢
 rw [rounds_succ]
 have m4:=hM0.2.2.2.2.1
 go_wp2_with fail
 refine (N4.out _).mono ?_
 rintro e w1 ⟨rfl,hb1⟩
 clear m4
 have hM0:=hM0.later hb1
 have R:=R.later hb1
 have T:=T.later hb1
 have hbel:=later hbel hb1
 clear hb1
 have fz:=T.fL 4
 have z:=T.cell 4 (.int .i64 0) rfl
 go_wp2_with fail
 have hM0:=cA hM0 (w.heap.size+1) 4 (by have:=hM.2.2.2.2.2;omega) (.int .i64 k4)
 have R:=R.aside (w.heap.size+1) 4 (by omega) (.int .i64 k4)
 have T:=T.put 4 (.int .i64 k4)
 have hbel:=hbel.setCell (p:=⟨w.heap.size+1,4,none⟩) (by show w.heap.size≤w.heap.size+1;omega) (.int .i64 k4)
 clear fz z
 generalize w1.setCell ⟨w.heap.size+1,4,none⟩ (.int .i64 k4)=w2 at R T hbel hM0 ⊢
 rw [rounds_succ]
 have fz:=R.fL
 have z0:=R.cell 0 (.int .i64 0) rfl
 have z1:=R.cell 1 (.int .i64 0) rfl
 have z2:=R.cell 2 (.int .i64 0) rfl
 have z3:=R.cell 3 (.int .i64 0) rfl
 have z4:=R.cell 4 (.int .i64 0) rfl
 have t0:=T.cell 0 (.int .i64 k0) rfl
 have t1:=T.cell 1 (.int .i64 k1) rfl
 have t2:=T.cell 2 (.int .i64 k2) rfl
 have t3:=T.cell 3 (.int .i64 k3) rfl
 have t4:=T.cell 4 (.int .i64 k4) rfl
 go_wp2_with fail
 have R:=((((R.put 0 (.int .i64 k0)).put 1 (.int .i64 k1)).put 2 (.int .i64 k2)).put 3 (.int .i64 k3)).put 4 (.int .i64 k4)
 have hbel:=((((hbel.setCell (p:=⟨w.heap.size,0,none⟩) (Nat.le_refl _) (.int .i64 k0)).setCell (p:=⟨w.heap.size,1,none⟩) (Nat.le_refl _) (.int .i64 k1)).setCell (p:=⟨w.heap.size,2,none⟩) (Nat.le_refl _) (.int .i64 k2)).setCell (p:=⟨w.heap.size,3,none⟩) (Nat.le_refl _) (.int .i64 k3)).setCell (p:=⟨w.heap.size,4,none⟩) (Nat.le_refl _) (.int .i64 k4)
 clear fz z0 z1 z2 z3 z4 t0 t1 t2 t3 t4
 have z0:=R.cell 0 (.int .i64 k0) rfl
 have z1:=R.cell 1 (.int .i64 k1) rfl
 have z2:=R.cell 2 (.int .i64 k2) rfl
 have z3:=R.cell 3 (.int .i64 k3) rfl
 have z4:=R.cell 4 (.int .i64 k4) rfl
 refine bodyPost_ret (v:=gy (some ((k0,k1,k2,k3,k4),r4))) (by simp [results,Tryz.results161,go_sem,gy,z0,z1,z2,z3,z4]) rfl ⟨rfl,hbel⟩
def jG (s:ByteArray) (w:World) (hM:bA w) (hs:s.size≤maxLen) :
  Calls Tryz.prog 161 #[.string s] w fun e w'=>e=.returned (gy (kU s.data.toList))∧Below w.heap.size w w':=by
 unfold kU
 rcases h0:aG s.data.toList 255 with _ | ⟨k0,r0⟩
 ·exact JZ s w hM hs h0
 simp only [Option.bind_some]
 rcases h1:aG r0 4294967295 with _ | ⟨k1,r1⟩
 ·exact Ko s k0 r0 w hM hs h0 h1
 simp only [Option.bind_some]
 rcases h2:aG r1 1099511627776 with _ | ⟨k2,r2⟩
 ·exact JU s k0 r0 k1 r1 w hM hs h0 h1 h2
 simp only [Option.bind_some]
 rcases h3:aG r2 1099511627776 with _ | ⟨k3,r3⟩
 ·exact Kl s k0 r0 k1 r1 k2 r2 w hM hs h0 h1 h2 h3
 simp only [Option.bind_some]
 rcases h4:aG r3 1073741824 with _ | ⟨k4,r4⟩
 ·exact Lz s k0 r0 k1 r1 k2 r2 k3 r3 w hM hs h0 h1 h2 h3 h4
 exact LG s k0 r0 k1 r1 k2 r2 k3 r3 k4 r4 w hM hs h0 h1 h2 h3 h4
end Go.Proofs.YtdbjakibneeeiaaGreatDoor.txn
namespace Go.Proofs.YtdbjakibneeeiaaGreatDoor.txn
open Go.RowKit cE
def jm:List UInt8→Option (List UInt8)
 | []=>none
 | b::r=>if b=1 then some r else none
def k9 (w:World) (b:Nat) (l:List Value):Prop:=w.heap[b]?=some (.cells l.toArray 26 (0,0))
def k9.lt {w:World} {b:Nat} {l:List Value} (h:k9 w b l):b<w.heap.size:=by
 unfold k9 at h
 exact (Array.getElem?_eq_some_iff.1 h).1
def k9.later {w w':World} {b:Nat} {l:List Value} (h:k9 w b l) (k:Below w.heap.size w w'):k9 w' b l:=(k.block b h.lt).trans h
def k9.cell {w:World} {b:Nat} {l:List Value} (h:k9 w b l) (i:Nat) (v:Value) (hi:l[i]?=some v):w.cell? ⟨b,i,none⟩=some v:=by
 unfold k9 at h
 simp only [World.cell?,h]
 simpa using hi
def k9.fL {w:World} {b:Nat} {l:List Value} (h:k9 w b l) (i:Nat):w.frozen? ⟨b,i,none⟩=false:=by
 unfold k9 at h
 simp [World.frozen?,h]
def k9.put {w:World} {b:Nat} {l:List Value} (h:k9 w b l) (i:Nat) (v:Value):k9 (w.setCell ⟨b,i,none⟩ v) b (l.set i v):=by
 unfold k9 at h ⊢
 rw [heap_setCell_same w b i _ _ v h]
 simp
def Gx (w:World) (b:Nat) (s n t c g:Int):Prop:=w.cell? ⟨b,0,none⟩=some (.int .i64 s)∧w.cell? ⟨b,1,none⟩=some (.int .i64 n)∧w.cell? ⟨b,2,none⟩=some (.int .i64 t)∧w.cell? ⟨b,3,none⟩=some (.int .i64 c)∧w.cell? ⟨b,4,none⟩=some (.int .i64 g)∧b<w.heap.size
def Gx.later {w w':World} {b:Nat} {s n t c g:Int} (h:Gx w b s n t c g) (k:Below w.heap.size w w'):Gx w' b s n t c g:=by
 obtain ⟨h0,h1,h2,h3,h4,hz⟩:=h
 exact ⟨(k.cell hz).trans h0,(k.cell hz).trans h1,(k.cell hz).trans h2,(k.cell hz).trans h3,(k.cell hz).trans h4,Nat.lt_of_lt_of_le hz k.size⟩
def Gx.own (w:World) (s n t c g:Int) (ty:TypeId):Gx (w.alloc (.cells #[.int .i64 s,.int .i64 n,.int .i64 t,.int .i64 c,.int .i64 g] ty (0,0))) w.heap.size s n t c g:=
 ⟨by simp,by simp,by simp,by simp,by simp,by show w.heap.size<(w.heap.push _).size;simp⟩
def oH (s:ByteArray) (r:List UInt8) (h:s.data.toList=1::r) (hs:s.size≤maxLen) (w:World) :
  Calls Tryz.prog 160 #[.string s,.string ⟨#[1]⟩] w fun e w'=>e=.returned (.tuple #[.string ⟨r.toArray⟩,.bool true])∧Below w.heap.size w w':=by
 have hz:s.size=r.length+1:=by
  have:s.data.toList.length=s.size:=by simp
  rw [h] at this
  simp at this
  omega
 have S0:=lR s 1 1 rfl (by omega)
 have S1:=sW s 1 1 rfl (by omega)
 rw [h] at S0 S1
 simp only [List.take_succ_cons,List.take_zero,List.drop_succ_cons,List.drop_zero] at S0 S1
 have T:decide ((1:Int)≤(s.size:Int))=true:=by simp;omega
 unfold maxLen at hs
 clear h hz
 go_enter Tryz.func160,Tryz.ntmps160
 go_wp2
 go_ret2
 exact ⟨rfl,Below.refl _ _⟩
def Ka (s:ByteArray) (h:jm s.data.toList=none) (hs:s.size≤maxLen) (w:World) :
  Calls Tryz.prog 160 #[.string s,.string ⟨#[1]⟩] w fun e w'=>e=.returned (.tuple #[.string s,.bool false])∧Below w.heap.size w w':=by
 have hz:s.data.toList.length=s.size:=by simp
 unfold maxLen at hs
 match hl:s.data.toList with
 | []=>
  rw [hl] at hz
  have T:decide ((1:Int)≤(s.size:Int))=false:=by simp at hz ⊢;omega
  have hs:s.size≤10:=by simp at hz;omega
  clear h hl hz
  go_enter Tryz.func160,Tryz.ntmps160
  go_wp2
  go_ret2
  exact ⟨rfl,Below.refl _ _⟩
 | b::r=>
  rw [hl] at hz h
  have hb:(([b]:List UInt8)==[1])=false:=by
   by_cases g:b=1
   ·simp [jm,g] at h
   ·simpa using g
  have hz2:s.size=r.length+1:=by simp at hz;omega
  have S0:=lR s 1 1 rfl (by omega)
  rw [hl] at S0
  simp only [List.take_succ_cons,List.take_zero] at S0
  have T:decide ((1:Int)≤(s.size:Int))=true:=by simp;omega
  clear h hl hz hz2
  go_enter Tryz.func160,Tryz.ntmps160
  go_wp2
  go_ret2
  exact ⟨rfl,Below.refl _ _⟩
def dec (s:List UInt8):Option Tx:=
 (jm s).bind fun r=>(kU r).bind fun p=>(dU p.2 256).bind fun q=>
  if q.2=[]∧(Tx.mk p.1.1 p.1.2.1 p.1.2.2.1 p.1.2.2.2.1 p.1.2.2.2.2 ⟨q.1.toArray⟩).ok=true then some (Tx.mk p.1.1 p.1.2.1 p.1.2.2.1 p.1.2.2.2.1 p.1.2.2.2.2 ⟨q.1.toArray⟩) else none
def Tx.zero:Tx:=⟨0,0,0,0,0,⟨#[]⟩⟩
def dg:Option Tx→Value
 | none=>.tuple #[Tx.zero.val,.bool false]
 | some x=>.tuple #[x.val,.bool true]
def Tx.cells (x:Tx):List Value:=[.int .i64 x.s,.int .i64 x.n,.int .i64 x.t,.int .i64 x.c,.int .i64 x.g,.string x.d]
def jD (w:World):k9 (w.alloc (.cells #[.int .i64 0,.int .i64 0,.int .i64 0,.int .i64 0,.int .i64 0,.string ⟨#[]⟩] 26 (0,0))) w.heap.size Tx.zero.cells:=by
 show (w.heap.push _)[w.heap.size]?=_
 simp [Tx.zero,Tx.cells]
def IK (w:World) (b:Nat) (x:Tx):World:=(((((w.setCell ⟨b,0,none⟩ (.int .i64 x.s)).setCell ⟨b,1,none⟩ (.int .i64 x.n)).setCell ⟨b,2,none⟩ (.int .i64 x.t)).setCell ⟨b,3,none⟩ (.int .i64 x.c)).setCell ⟨b,4,none⟩ (.int .i64 x.g)).setCell ⟨b,5,none⟩ (.string x.d)
def mc {w:World} {b:Nat} (x:Tx) (h:k9 w b Tx.zero.cells):k9 (IK w b x) b x.cells:=
 (((((h.put 0 (.int .i64 x.s)).put 1 (.int .i64 x.n)).put 2 (.int .i64 x.t)).put 3 (.int .i64 x.c)).put 4 (.int .i64 x.g)).put 5 (.string x.d)
def gL {w0 w:World} (b:Nat) (x:Tx) (h:Below w0.heap.size w0 w) (hb:w0.heap.size≤b):Below w0.heap.size w0 (IK w b x):=
 (((((h.setCell (p:=⟨b,0,none⟩) hb _).setCell (p:=⟨b,1,none⟩) hb _).setCell (p:=⟨b,2,none⟩) hb _).setCell (p:=⟨b,3,none⟩) hb _).setCell (p:=⟨b,4,none⟩) hb _).setCell (p:=⟨b,5,none⟩) hb _
def m6 (r:List UInt8) (p:(Nat×Nat×Nat×Nat×Nat)×List UInt8) (h:kU r=some p) (hr:r.length≤maxLen):p.2.length≤maxLen:=by
 have step:∀(l t:List UInt8) (k:Nat) (m:Int),aG l m=some (k,t)→l.length≤maxLen→t.length≤maxLen:=by
  intro l t k m h hl
  have e:=congrArg List.length (b7 _ _ _ _ h).1
  rw [List.length_append] at e
  omega
 unfold kU at h
 rcases h0:aG r 255 with _ | ⟨k0,r0⟩
 ·rw [h0] at h;cases h
 rw [h0,Option.bind_some] at h
 simp only [] at h
 rcases h1:aG r0 4294967295 with _ | ⟨k1,r1⟩
 ·rw [h1] at h;cases h
 rw [h1,Option.bind_some] at h
 simp only [] at h
 rcases h2:aG r1 1099511627776 with _ | ⟨k2,r2⟩
 ·rw [h2] at h;cases h
 rw [h2,Option.bind_some] at h
 simp only [] at h
 rcases h3:aG r2 1099511627776 with _ | ⟨k3,r3⟩
 ·rw [h3] at h;cases h
 rw [h3,Option.bind_some] at h
 simp only [] at h
 rcases h4:aG r3 1073741824 with _ | ⟨k4,r4⟩
 ·rw [h4] at h;cases h
 rw [h4,Option.bind_some] at h
 cases h
 exact step _ _ _ _ h4 (step _ _ _ _ h3 (step _ _ _ _ h2 (step _ _ _ _ h1 (step _ _ _ _ h0 hr))))
def Bi (s:ByteArray) (w:World) (hM:bA w) (hs:s.size≤maxLen) (h0:jm s.data.toList=none) :
  Calls Tryz.prog 135 #[.string s] w fun e w'=>e=.returned (dg none)∧Below w.heap.size w w':=by
 have C:=Lib.hid (Ka s h0 hs)
 have R:=jD w
 have hbel:=laid (Below.refl w.heap.size w) (.cells #[.int .i64 0,.int .i64 0,.int .i64 0,.int .i64 0,.int .i64 0,.string ⟨#[]⟩] 26 (0,0))
 have hM:=hM.later hbel
 clear h0
 go_enter Tryz.func135,Tryz.ntmps135
 go_wp2_with fail
 generalize w.alloc (.cells #[.int .i64 0,.int .i64 0,.int .i64 0,.int .i64 0,.int .i64 0,.string ⟨#[]⟩] 26 (0,0))=w0 at R hbel hM ⊢
 refine (C.out _).mono ?_
 rintro e w1 ⟨rfl,hb1⟩
 have R:=R.later hb1
 have hM:=hM.later hb1
 have hbel:=later hbel hb1
 clear hb1
 have fz:=R.fL
 have z0:=R.cell 0 (.int .i64 0) rfl
 have z1:=R.cell 1 (.int .i64 0) rfl
 have z2:=R.cell 2 (.int .i64 0) rfl
 have z3:=R.cell 3 (.int .i64 0) rfl
 have z4:=R.cell 4 (.int .i64 0) rfl
 have z5:=R.cell 5 (.string ⟨#[]⟩) rfl
 go_wp2_with fail
 have R:=mc Tx.zero R
 have hbel:=gL w.heap.size Tx.zero hbel (Nat.le_refl _)
 clear fz z0 z1 z2 z3 z4 z5
 have z0:=R.cell 0 _ rfl
 have z1:=R.cell 1 _ rfl
 have z2:=R.cell 2 _ rfl
 have z3:=R.cell 3 _ rfl
 have z4:=R.cell 4 _ rfl
 have z5:=R.cell 5 _ rfl
 simp only [IK,Tx.zero] at hbel z0 z1 z2 z3 z4 z5
 refine bodyPost_ret (v:=dg none) (by simp [results,Tryz.results135,go_sem,dg,Tx.val,Tx.zero,z0,z1,z2,z3,z4,z5]) rfl ⟨rfl,hbel⟩
def zQ (s:ByteArray) (r:List UInt8) (w:World) (hM:bA w) (hs:s.size≤maxLen) (h0:jm s.data.toList=some r) (h1:kU r=none) :
  Calls Tryz.prog 135 #[.string s] w fun e w'=>e=.returned (dg none)∧Below w.heap.size w w':=by
 have e0:s.data.toList=1::r:=by
  cases hl:s.data.toList with
  | nil=>rw [hl] at h0;cases h0
  | cons b t=>
   rw [hl] at h0
   by_cases g:b=1
   ·simp [jm,g] at h0
    rw [g,h0]
   ·simp [jm,g] at h0
 have hr:r.length≤maxLen:=by
  have e3:s.data.toList.length=s.size:=by simp
  rw [e0] at e3
  simp at e3
  omega
 have C:=Lib.hid (oH s r e0 hs)
 have N:=Lib.hid (fun w hM=>jG ⟨r.toArray⟩ w hM hr)
 simp only [] at N
 rw [h1] at N
 simp only [gy] at N
 have R:=jD w
 have hbel:=laid (Below.refl w.heap.size w) (.cells #[.int .i64 0,.int .i64 0,.int .i64 0,.int .i64 0,.int .i64 0,.string ⟨#[]⟩] 26 (0,0))
 have hM:=hM.later hbel
 clear h0 e0 h1
 go_enter Tryz.func135,Tryz.ntmps135
 go_wp2_with fail
 generalize w.alloc (.cells #[.int .i64 0,.int .i64 0,.int .i64 0,.int .i64 0,.int .i64 0,.string ⟨#[]⟩] 26 (0,0))=w0 at R hbel hM ⊢
 refine (C.out _).mono ?_
 rintro e w1 ⟨rfl,hb1⟩
 have R:=R.later hb1
 have hM:=hM.later hb1
 have hbel:=later hbel hb1
 clear hb1
 go_wp2_with fail
 refine (N.out _ hM).mono ?_
 rintro e w2 ⟨rfl,hb2⟩
 have R:=R.later hb2
 have hM:=hM.later hb2
 have hbel:=later hbel hb2
 clear hb2
 have F0:=Gx.own w2 0 0 0 0 0 205
 have hl:Below w2.heap.size w2 (w2.alloc (.cells #[.int .i64 0,.int .i64 0,.int .i64 0,.int .i64 0,.int .i64 0] 205 (0,0))):=laid (Below.refl _ _) _
 have R:=R.later hl
 have hbel:=later hbel hl
 have fz:=R.fL
 have z0:=R.cell 0 (.int .i64 0) rfl
 have z1:=R.cell 1 (.int .i64 0) rfl
 have z2:=R.cell 2 (.int .i64 0) rfl
 have z3:=R.cell 3 (.int .i64 0) rfl
 have z4:=R.cell 4 (.int .i64 0) rfl
 have z5:=R.cell 5 (.string ⟨#[]⟩) rfl
 go_wp2_with fail
 have R:=mc Tx.zero R
 have hbel:=gL w.heap.size Tx.zero hbel (Nat.le_refl _)
 clear fz z0 z1 z2 z3 z4 z5
 have z0:=R.cell 0 _ rfl
 have z1:=R.cell 1 _ rfl
 have z2:=R.cell 2 _ rfl
 have z3:=R.cell 3 _ rfl
 have z4:=R.cell 4 _ rfl
 have z5:=R.cell 5 _ rfl
 simp only [IK,Tx.zero] at hbel z0 z1 z2 z3 z4 z5
 refine bodyPost_ret (v:=dg none) (by simp [results,Tryz.results135,go_sem,dg,Tx.val,Tx.zero,z0,z1,z2,z3,z4,z5]) rfl ⟨rfl,hbel⟩
def zU (s:ByteArray) (r:List UInt8) (k0 k1 k2 k3 k4:Nat) (r4:List UInt8) (w:World) (hM:bA w) (hs:s.size≤maxLen) (h0:jm s.data.toList=some r) (h1:kU r=some ((k0,k1,k2,k3,k4),r4)) (h2:dU r4 256=none) :
  Calls Tryz.prog 135 #[.string s] w fun e w'=>e=.returned (dg none)∧Below w.heap.size w w':=by
 have e0:s.data.toList=1::r:=by
  cases hl:s.data.toList with
  | nil=>rw [hl] at h0;cases h0
  | cons b t=>
   rw [hl] at h0
   by_cases g:b=1
   ·simp [jm,g] at h0
    rw [g,h0]
   ·simp [jm,g] at h0
 have hr:r.length≤maxLen:=by
  have e3:s.data.toList.length=s.size:=by simp
  rw [e0] at e3
  simp at e3
  omega
 have C:=Lib.hid (oH s r e0 hs)
 have N:=Lib.hid (fun w hM=>jG ⟨r.toArray⟩ w hM hr)
 simp only [] at N
 rw [h1] at N
 simp only [gy] at N
 have hr4:r4.length≤maxLen:=m6 r _ h1 hr
 have T:=Lib.hid (fun w=>fU ⟨r4.toArray⟩ 256 w hr4)
 simp only [] at T
 rw [h2] at T
 simp only [iT] at T
 have R:=jD w
 have hbel:=laid (Below.refl w.heap.size w) (.cells #[.int .i64 0,.int .i64 0,.int .i64 0,.int .i64 0,.int .i64 0,.string ⟨#[]⟩] 26 (0,0))
 have hM:=hM.later hbel
 clear h0 e0 h1 h2
 go_enter Tryz.func135,Tryz.ntmps135
 go_wp2_with fail
 generalize w.alloc (.cells #[.int .i64 0,.int .i64 0,.int .i64 0,.int .i64 0,.int .i64 0,.string ⟨#[]⟩] 26 (0,0))=w0 at R hbel hM ⊢
 refine (C.out _).mono ?_
 rintro e w1 ⟨rfl,hb1⟩
 have R:=R.later hb1
 have hM:=hM.later hb1
 have hbel:=later hbel hb1
 clear hb1
 go_wp2_with fail
 refine (N.out _ hM).mono ?_
 rintro e w2 ⟨rfl,hb2⟩
 have R:=R.later hb2
 have hM:=hM.later hb2
 have hbel:=later hbel hb2
 clear hb2
 have F0:=Gx.own w2 k0 k1 k2 k3 k4 205
 have hl:Below w2.heap.size w2 (w2.alloc (.cells #[.int .i64 (k0:Int),.int .i64 (k1:Int),.int .i64 (k2:Int),.int .i64 (k3:Int),.int .i64 (k4:Int)] 205 (0,0))):=laid (Below.refl _ _) _
 have R:=R.later hl
 have hM:=hM.later hl
 have hbel:=later hbel hl
 clear hl
 go_wp2_with fail
 generalize w2.alloc (.cells #[.int .i64 (k0:Int),.int .i64 (k1:Int),.int .i64 (k2:Int),.int .i64 (k3:Int),.int .i64 (k4:Int)] 205 (0,0))=w3 at F0 R hM hbel ⊢
 refine (T.out _).mono ?_
 rintro e w4 ⟨rfl,hb4⟩
 have R:=R.later hb4
 have hM:=hM.later hb4
 have hbel:=later hbel hb4
 have F0:=F0.later hb4
 clear hb4
 obtain ⟨f0,f1,f2,f3,f4,_⟩:=F0
 have B0:=Ei.own w4 (Tx.mk k0 k1 k2 k3 k4 ⟨#[]⟩) 26
 simp only [] at B0
 have hl:Below w4.heap.size w4 (w4.alloc (.cells #[.int .i64 (k0:Int),.int .i64 (k1:Int),.int .i64 (k2:Int),.int .i64 (k3:Int),.int .i64 (k4:Int),.string ⟨#[]⟩] 26 (0,0))):=laid (Below.refl _ _) _
 have R:=R.later hl
 have hM:=hM.later hl
 have hbel:=later hbel hl
 clear hl
 have fz:=R.fL
 have z0:=R.cell 0 (.int .i64 0) rfl
 have z1:=R.cell 1 (.int .i64 0) rfl
 have z2:=R.cell 2 (.int .i64 0) rfl
 have z3:=R.cell 3 (.int .i64 0) rfl
 have z4:=R.cell 4 (.int .i64 0) rfl
 have z5:=R.cell 5 (.string ⟨#[]⟩) rfl
 go_wp2_with fail
 have R:=mc Tx.zero R
 have hbel:=gL w.heap.size Tx.zero hbel (Nat.le_refl _)
 clear fz z0 z1 z2 z3 z4 z5
 have z0:=R.cell 0 _ rfl
 have z1:=R.cell 1 _ rfl
 have z2:=R.cell 2 _ rfl
 have z3:=R.cell 3 _ rfl
 have z4:=R.cell 4 _ rfl
 have z5:=R.cell 5 _ rfl
 simp only [IK,Tx.zero] at hbel z0 z1 z2 z3 z4 z5
 refine bodyPost_ret (v:=dg none) (by simp [results,Tryz.results135,go_sem,dg,Tx.val,Tx.zero,z0,z1,z2,z3,z4,z5]) rfl ⟨rfl,hbel⟩
def zb (s:ByteArray) (r:List UInt8) (k0 k1 k2 k3 k4:Nat) (r4:List UInt8) (d q:List UInt8) (w:World) (hM:bA w) (hs:s.size≤maxLen) (h0:jm s.data.toList=some r) (h1:kU r=some ((k0,k1,k2,k3,k4),r4)) (h2:dU r4 256=some (d,q)) (hq:q≠[]) :
  Calls Tryz.prog 135 #[.string s] w fun e w'=>e=.returned (dg none)∧Below w.heap.size w w':=by
 have e0:s.data.toList=1::r:=by
  cases hl:s.data.toList with
  | nil=>rw [hl] at h0;cases h0
  | cons b t=>
   rw [hl] at h0
   by_cases g:b=1
   ·simp [jm,g] at h0
    rw [g,h0]
   ·simp [jm,g] at h0
 have hr:r.length≤maxLen:=by
  have e3:s.data.toList.length=s.size:=by simp
  rw [e0] at e3
  simp at e3
  omega
 have C:=Lib.hid (oH s r e0 hs)
 have N:=Lib.hid (fun w hM=>jG ⟨r.toArray⟩ w hM hr)
 simp only [] at N
 rw [h1] at N
 simp only [gy] at N
 have hr4:r4.length≤maxLen:=m6 r _ h1 hr
 have T:=Lib.hid (fun w=>fU ⟨r4.toArray⟩ 256 w hr4)
 simp only [] at T
 rw [h2] at T
 simp only [iT] at T
 have hdl:d.length≤256:=by
  have:=(ja _ _ _ _ h2).2.2
  omega
 have hq2:(q==([]:List UInt8))=false:=by simpa using hq
 have R:=jD w
 have hbel:=laid (Below.refl w.heap.size w) (.cells #[.int .i64 0,.int .i64 0,.int .i64 0,.int .i64 0,.int .i64 0,.string ⟨#[]⟩] 26 (0,0))
 have hM:=hM.later hbel
 clear h0 e0 h1 h2 hq
 go_enter Tryz.func135,Tryz.ntmps135
 go_wp2_with fail
 generalize w.alloc (.cells #[.int .i64 0,.int .i64 0,.int .i64 0,.int .i64 0,.int .i64 0,.string ⟨#[]⟩] 26 (0,0))=w0 at R hbel hM ⊢
 refine (C.out _).mono ?_
 rintro e w1 ⟨rfl,hb1⟩
 have R:=R.later hb1
 have hM:=hM.later hb1
 have hbel:=later hbel hb1
 clear hb1
 go_wp2_with fail
 refine (N.out _ hM).mono ?_
 rintro e w2 ⟨rfl,hb2⟩
 have R:=R.later hb2
 have hM:=hM.later hb2
 have hbel:=later hbel hb2
 clear hb2
 have F0:=Gx.own w2 k0 k1 k2 k3 k4 205
 have hl:Below w2.heap.size w2 (w2.alloc (.cells #[.int .i64 (k0:Int),.int .i64 (k1:Int),.int .i64 (k2:Int),.int .i64 (k3:Int),.int .i64 (k4:Int)] 205 (0,0))):=laid (Below.refl _ _) _
 have R:=R.later hl
 have hM:=hM.later hl
 have hbel:=later hbel hl
 clear hl
 go_wp2_with fail
 generalize w2.alloc (.cells #[.int .i64 (k0:Int),.int .i64 (k1:Int),.int .i64 (k2:Int),.int .i64 (k3:Int),.int .i64 (k4:Int)] 205 (0,0))=w3 at F0 R hM hbel ⊢
 refine (T.out _).mono ?_
 rintro e w4 ⟨rfl,hb4⟩
 have R:=R.later hb4
 have hM:=hM.later hb4
 have hbel:=later hbel hb4
 have F0:=F0.later hb4
 clear hb4
 obtain ⟨f0,f1,f2,f3,f4,_⟩:=F0
 have B0:=Ei.own w4 (Tx.mk k0 k1 k2 k3 k4 ⟨d.toArray⟩) 26
 simp only [] at B0
 have hl:Below w4.heap.size w4 (w4.alloc (.cells #[.int .i64 (k0:Int),.int .i64 (k1:Int),.int .i64 (k2:Int),.int .i64 (k3:Int),.int .i64 (k4:Int),.string ⟨d.toArray⟩] 26 (0,0))):=laid (Below.refl _ _) _
 have R:=R.later hl
 have hM:=hM.later hl
 have hbel:=later hbel hl
 clear hl
 have fz:=R.fL
 have z0:=R.cell 0 (.int .i64 0) rfl
 have z1:=R.cell 1 (.int .i64 0) rfl
 have z2:=R.cell 2 (.int .i64 0) rfl
 have z3:=R.cell 3 (.int .i64 0) rfl
 have z4:=R.cell 4 (.int .i64 0) rfl
 have z5:=R.cell 5 (.string ⟨#[]⟩) rfl
 go_wp2_with fail
 have R:=mc Tx.zero R
 have hbel:=gL w.heap.size Tx.zero hbel (Nat.le_refl _)
 clear fz z0 z1 z2 z3 z4 z5
 have z0:=R.cell 0 _ rfl
 have z1:=R.cell 1 _ rfl
 have z2:=R.cell 2 _ rfl
 have z3:=R.cell 3 _ rfl
 have z4:=R.cell 4 _ rfl
 have z5:=R.cell 5 _ rfl
 simp only [IK,Tx.zero] at hbel z0 z1 z2 z3 z4 z5
 refine bodyPost_ret (v:=dg none) (by simp [results,Tryz.results135,go_sem,dg,Tx.val,Tx.zero,z0,z1,z2,z3,z4,z5]) rfl ⟨rfl,hbel⟩
def BE (s:ByteArray) (r:List UInt8) (k0 k1 k2 k3 k4:Nat) (r4:List UInt8) (d q:List UInt8) (w:World) (hM:bA w) (hs:s.size≤maxLen) (h0:jm s.data.toList=some r) (h1:kU r=some ((k0,k1,k2,k3,k4),r4)) (h2:dU r4 256=some (d,q)) (hq:q=[]) (hok:(Tx.mk k0 k1 k2 k3 k4 ⟨d.toArray⟩).ok=false) :
  Calls Tryz.prog 135 #[.string s] w fun e w'=>e=.returned (dg none)∧Below w.heap.size w w':=by
 have e0:s.data.toList=1::r:=by
  cases hl:s.data.toList with
  | nil=>rw [hl] at h0;cases h0
  | cons b t=>
   rw [hl] at h0
   by_cases g:b=1
   ·simp [jm,g] at h0
    rw [g,h0]
   ·simp [jm,g] at h0
 have hr:r.length≤maxLen:=by
  have e3:s.data.toList.length=s.size:=by simp
  rw [e0] at e3
  simp at e3
  omega
 have C:=Lib.hid (oH s r e0 hs)
 have N:=Lib.hid (fun w hM=>jG ⟨r.toArray⟩ w hM hr)
 simp only [] at N
 rw [h1] at N
 simp only [gy] at N
 have hr4:r4.length≤maxLen:=m6 r _ h1 hr
 have T:=Lib.hid (fun w=>fU ⟨r4.toArray⟩ 256 w hr4)
 simp only [] at T
 rw [h2] at T
 simp only [iT] at T
 have hdl:d.length≤256:=by
  have:=(ja _ _ _ _ h2).2.2
  omega
 subst hq
 have K:=Lib.hid (fun w hM=>check (Tx.mk k0 k1 k2 k3 k4 ⟨d.toArray⟩) w hM)
 rw [hok] at K
 simp only [Tx.val] at K
 have R:=jD w
 have hbel:=laid (Below.refl w.heap.size w) (.cells #[.int .i64 0,.int .i64 0,.int .i64 0,.int .i64 0,.int .i64 0,.string ⟨#[]⟩] 26 (0,0))
 have hM:=hM.later hbel
 clear h0 e0 h1 h2 hok
 go_enter Tryz.func135,Tryz.ntmps135
 go_wp2_with fail
 generalize w.alloc (.cells #[.int .i64 0,.int .i64 0,.int .i64 0,.int .i64 0,.int .i64 0,.string ⟨#[]⟩] 26 (0,0))=w0 at R hbel hM ⊢
 refine (C.out _).mono ?_
 rintro e w1 ⟨rfl,hb1⟩
 have R:=R.later hb1
 have hM:=hM.later hb1
 have hbel:=later hbel hb1
 clear hb1
 go_wp2_with fail
 refine (N.out _ hM).mono ?_
 rintro e w2 ⟨rfl,hb2⟩
 have R:=R.later hb2
 have hM:=hM.later hb2
 have hbel:=later hbel hb2
 clear hb2
 have F0:=Gx.own w2 k0 k1 k2 k3 k4 205
 have hl:Below w2.heap.size w2 (w2.alloc (.cells #[.int .i64 (k0:Int),.int .i64 (k1:Int),.int .i64 (k2:Int),.int .i64 (k3:Int),.int .i64 (k4:Int)] 205 (0,0))):=laid (Below.refl _ _) _
 have R:=R.later hl
 have hM:=hM.later hl
 have hbel:=later hbel hl
 clear hl
 go_wp2_with fail
 generalize w2.alloc (.cells #[.int .i64 (k0:Int),.int .i64 (k1:Int),.int .i64 (k2:Int),.int .i64 (k3:Int),.int .i64 (k4:Int)] 205 (0,0))=w3 at F0 R hM hbel ⊢
 refine (T.out _).mono ?_
 rintro e w4 ⟨rfl,hb4⟩
 have R:=R.later hb4
 have hM:=hM.later hb4
 have hbel:=later hbel hb4
 have F0:=F0.later hb4
 clear hb4
 obtain ⟨f0,f1,f2,f3,f4,_⟩:=F0
 have B0:=Ei.own w4 (Tx.mk k0 k1 k2 k3 k4 ⟨d.toArray⟩) 26
 simp only [] at B0
 have hl:Below w4.heap.size w4 (w4.alloc (.cells #[.int .i64 (k0:Int),.int .i64 (k1:Int),.int .i64 (k2:Int),.int .i64 (k3:Int),.int .i64 (k4:Int),.string ⟨d.toArray⟩] 26 (0,0))):=laid (Below.refl _ _) _
 have R:=R.later hl
 have hM:=hM.later hl
 have hbel:=later hbel hl
 clear hl
 go_wp2_with fail
 generalize w4.alloc (.cells #[.int .i64 (k0:Int),.int .i64 (k1:Int),.int .i64 (k2:Int),.int .i64 (k3:Int),.int .i64 (k4:Int),.string ⟨d.toArray⟩] 26 (0,0))=w5 at B0 R hM hbel ⊢
 refine (K.out _ hM).mono ?_
 rintro e w6 ⟨rfl,hb6⟩
 have R:=R.later hb6
 have hM:=hM.later hb6
 have hbel:=later hbel hb6
 have B0:=B0.later hb6
 clear hb6
 obtain ⟨c0,c1,c2,c3,c4,c5,_⟩:=B0
 simp only [] at c0 c1 c2 c3 c4 c5
 have fz:=R.fL
 have z0:=R.cell 0 (.int .i64 0) rfl
 have z1:=R.cell 1 (.int .i64 0) rfl
 have z2:=R.cell 2 (.int .i64 0) rfl
 have z3:=R.cell 3 (.int .i64 0) rfl
 have z4:=R.cell 4 (.int .i64 0) rfl
 have z5:=R.cell 5 (.string ⟨#[]⟩) rfl
 go_wp2_with fail
 have R:=mc Tx.zero R
 have hbel:=gL w.heap.size Tx.zero hbel (Nat.le_refl _)
 clear fz z0 z1 z2 z3 z4 z5
 have z0:=R.cell 0 _ rfl
 have z1:=R.cell 1 _ rfl
 have z2:=R.cell 2 _ rfl
 have z3:=R.cell 3 _ rfl
 have z4:=R.cell 4 _ rfl
 have z5:=R.cell 5 _ rfl
 simp only [IK,Tx.zero] at hbel z0 z1 z2 z3 z4 z5
 refine bodyPost_ret (v:=dg none) (by simp [results,Tryz.results135,go_sem,dg,Tx.val,Tx.zero,z0,z1,z2,z3,z4,z5]) rfl ⟨rfl,hbel⟩
def yG (s:ByteArray) (r:List UInt8) (k0 k1 k2 k3 k4:Nat) (r4:List UInt8) (d q:List UInt8) (w:World) (hM:bA w) (hs:s.size≤maxLen) (h0:jm s.data.toList=some r) (h1:kU r=some ((k0,k1,k2,k3,k4),r4)) (h2:dU r4 256=some (d,q)) (hq:q=[]) (hok:(Tx.mk k0 k1 k2 k3 k4 ⟨d.toArray⟩).ok=true) :
  Calls Tryz.prog 135 #[.string s] w fun e w'=>e=.returned (dg (some (Tx.mk k0 k1 k2 k3 k4 ⟨d.toArray⟩)))∧Below w.heap.size w w':=by
 have e0:s.data.toList=1::r:=by
  cases hl:s.data.toList with
  | nil=>rw [hl] at h0;cases h0
  | cons b t=>
   rw [hl] at h0
   by_cases g:b=1
   ·simp [jm,g] at h0
    rw [g,h0]
   ·simp [jm,g] at h0
 have hr:r.length≤maxLen:=by
  have e3:s.data.toList.length=s.size:=by simp
  rw [e0] at e3
  simp at e3
  omega
 have C:=Lib.hid (oH s r e0 hs)
 have N:=Lib.hid (fun w hM=>jG ⟨r.toArray⟩ w hM hr)
 simp only [] at N
 rw [h1] at N
 simp only [gy] at N
 have hr4:r4.length≤maxLen:=m6 r _ h1 hr
 have T:=Lib.hid (fun w=>fU ⟨r4.toArray⟩ 256 w hr4)
 simp only [] at T
 rw [h2] at T
 simp only [iT] at T
 have hdl:d.length≤256:=by
  have:=(ja _ _ _ _ h2).2.2
  omega
 subst hq
 have K:=Lib.hid (fun w hM=>check (Tx.mk k0 k1 k2 k3 k4 ⟨d.toArray⟩) w hM)
 rw [hok] at K
 simp only [Tx.val] at K
 have R:=jD w
 have hbel:=laid (Below.refl w.heap.size w) (.cells #[.int .i64 0,.int .i64 0,.int .i64 0,.int .i64 0,.int .i64 0,.string ⟨#[]⟩] 26 (0,0))
 have hM:=hM.later hbel
 clear h0 e0 h1 h2 hok
 go_enter Tryz.func135,Tryz.ntmps135
 go_wp2_with fail
 generalize w.alloc (.cells #[.int .i64 0,.int .i64 0,.int .i64 0,.int .i64 0,.int .i64 0,.string ⟨#[]⟩] 26 (0,0))=w0 at R hbel hM ⊢
 refine (C.out _).mono ?_
 rintro e w1 ⟨rfl,hb1⟩
 have R:=R.later hb1
 have hM:=hM.later hb1
 have hbel:=later hbel hb1
 clear hb1
 go_wp2_with fail
 refine (N.out _ hM).mono ?_
 rintro e w2 ⟨rfl,hb2⟩
 have R:=R.later hb2
 have hM:=hM.later hb2
 have hbel:=later hbel hb2
 clear hb2
 have F0:=Gx.own w2 k0 k1 k2 k3 k4 205
 have hl:Below w2.heap.size w2 (w2.alloc (.cells #[.int .i64 (k0:Int),.int .i64 (k1:Int),.int .i64 (k2:Int),.int .i64 (k3:Int),.int .i64 (k4:Int)] 205 (0,0))):=laid (Below.refl _ _) _
 have R:=R.later hl
 have hM:=hM.later hl
 have hbel:=later hbel hl
 clear hl
 go_wp2_with fail
 generalize w2.alloc (.cells #[.int .i64 (k0:Int),.int .i64 (k1:Int),.int .i64 (k2:Int),.int .i64 (k3:Int),.int .i64 (k4:Int)] 205 (0,0))=w3 at F0 R hM hbel ⊢
 refine (T.out _).mono ?_
 rintro e w4 ⟨rfl,hb4⟩
 have R:=R.later hb4
 have hM:=hM.later hb4
 have hbel:=later hbel hb4
 have F0:=F0.later hb4
 clear hb4
 obtain ⟨f0,f1,f2,f3,f4,_⟩:=F0
 have B0:=Ei.own w4 (Tx.mk k0 k1 k2 k3 k4 ⟨d.toArray⟩) 26
 simp only [] at B0
 have hl:Below w4.heap.size w4 (w4.alloc (.cells #[.int .i64 (k0:Int),.int .i64 (k1:Int),.int .i64 (k2:Int),.int .i64 (k3:Int),.int .i64 (k4:Int),.string ⟨d.toArray⟩] 26 (0,0))):=laid (Below.refl _ _) _
 have R:=R.later hl
 have hM:=hM.later hl
 have hbel:=later hbel hl
 clear hl
 go_wp2_with fail
 generalize w4.alloc (.cells #[.int .i64 (k0:Int),.int .i64 (k1:Int),.int .i64 (k2:Int),.int .i64 (k3:Int),.int .i64 (k4:Int),.string ⟨d.toArray⟩] 26 (0,0))=w5 at B0 R hM hbel ⊢
 refine (K.out _ hM).mono ?_
 rintro e w6 ⟨rfl,hb6⟩
 have R:=R.later hb6
 have hM:=hM.later hb6
 have hbel:=later hbel hb6
 have B0:=B0.later hb6
 clear hb6
 obtain ⟨c0,c1,c2,c3,c4,c5,_⟩:=B0
 simp only [] at c0 c1 c2 c3 c4 c5
 have fz:=R.fL
 have z0:=R.cell 0 (.int .i64 0) rfl
 have z1:=R.cell 1 (.int .i64 0) rfl
 have z2:=R.cell 2 (.int .i64 0) rfl
 have z3:=R.cell 3 (.int .i64 0) rfl
 have z4:=R.cell 4 (.int .i64 0) rfl
 have z5:=R.cell 5 (.string ⟨#[]⟩) rfl
 go_wp2_with fail
 have R:=mc (Tx.mk k0 k1 k2 k3 k4 ⟨d.toArray⟩) R
 have hbel:=gL w.heap.size (Tx.mk k0 k1 k2 k3 k4 ⟨d.toArray⟩) hbel (Nat.le_refl _)
 clear fz z0 z1 z2 z3 z4 z5
 have z0:=R.cell 0 _ rfl
 have z1:=R.cell 1 _ rfl
 have z2:=R.cell 2 _ rfl
 have z3:=R.cell 3 _ rfl
 have z4:=R.cell 4 _ rfl
 have z5:=R.cell 5 _ rfl
 simp only [IK,Tx.zero] at hbel z0 z1 z2 z3 z4 z5
 refine bodyPost_ret (v:=dg (some (Tx.mk k0 k1 k2 k3 k4 ⟨d.toArray⟩))) (by simp [results,Tryz.results135,go_sem,dg,Tx.val,Tx.zero,z0,z1,z2,z3,z4,z5]) rfl ⟨rfl,hbel⟩
end Go.Proofs.YtdbjakibneeeiaaGreatDoor.txn
namespace Go.Proofs.YtdbjakibneeeiaaGreatDoor.txn
open Go.RowKit cE
def Bo (s:ByteArray) (w:World) (hM:bA w) (hs:s.size≤maxLen) :
  Calls Tryz.prog 135 #[.string s] w fun e w'=>e=.returned (dg (dec s.data.toList))∧Below w.heap.size w w':=by
 unfold dec
 rcases h0:jm s.data.toList with _ | r
 ·exact Bi s w hM hs h0
 rw [Option.bind_some]
 rcases h1:kU r with _ | ⟨⟨k0,k1,k2,k3,k4⟩,r4⟩
 ·exact zQ s r w hM hs h0 h1
 rw [Option.bind_some]
 simp only []
 rcases h2:dU r4 256 with _ | ⟨d,q⟩
 ·exact zU s r k0 k1 k2 k3 k4 r4 w hM hs h0 h1 h2
 rw [Option.bind_some]
 simp only []
 by_cases hq:q=[]
 ·cases hok:(Tx.mk k0 k1 k2 k3 k4 ⟨d.toArray⟩).ok with
  | false=>
   rw [if_neg (by simp)]
   exact BE s r k0 k1 k2 k3 k4 r4 d q w hM hs h0 h1 h2 hq hok
  | true=>
   rw [if_pos ⟨hq,rfl⟩]
   exact yG s r k0 k1 k2 k3 k4 r4 d q w hM hs h0 h1 h2 hq hok
 ·rw [if_neg (fun c=>hq c.1)]
  exact zb s r k0 k1 k2 k3 k4 r4 d q w hM hs h0 h1 h2 hq
end Go.Proofs.YtdbjakibneeeiaaGreatDoor.txn
