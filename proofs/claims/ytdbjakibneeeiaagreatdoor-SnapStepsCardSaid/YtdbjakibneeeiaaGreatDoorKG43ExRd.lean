/- Layer 18 (snap), purely: arguments as they may be. -/
import Derived.Test.YtdbjakibneeeiaaGreatDoorKExPh
import Derived.Test.YtdbjakibneeeiaaGreatDoorKG26ExO
import Derived.Test.YtdbjakibneeeiaaGreatDoorKG42ExLv
import Derived.Test.YtdbjakibneeeiaaGreatDoorKG36ExPc
set_option linter.all false
set_option maxHeartbeats 4000000
set_option maxRecDepth 100000
noncomputable section
namespace Go.Proofs.YtdbjakibneeeiaaGreatDoor.Ex
open Go.RowKit Sx
def wE (L:List cQ) (h:FA (.row z4) L):Az L∧∀c:cQ,c∈L→∀a:dc,a∈c.1→dx a.1=true:=by
 have hz4:∀c:cQ,c∈L→FA z4 c:=h.2
 refine ⟨⟨h.1,fun c hc=>?_⟩,fun c hc a ha=>?_⟩
 ·have h1:Jo [.row z1,.int] c:=hz4 c hc
  refine ⟨h1.1.1,fun a ha=>?_⟩
  have h2:Jo [.int,.int,.row z0] a:=h1.1.2 a ha
  exact h2.2.2.1.1
 ·have h1:Jo [.row z1,.int] c:=hz4 c hc
  have h2:Jo [.int,.int,.row z0] a:=h1.1.2 a ha
  have h3:Fits a.1:=h2.1
  exact bS h3.1 (Int.lt_add_one_iff.1 h3.2)
def Ge {L:List cQ} (h:∀c:cQ,c∈L→∀a:dc,a∈c.1→dx a.1=true) {c:cQ} (hc:c∈L) (h2:Iy c):TP c:=⟨h2.1,fun a ha=>⟨h2.2 a ha,h c hc a ha⟩⟩
def M6 (s:P_2) (h:FA (.row z4) s.2.2.2.1) (hs:Q0 s):xW s:=⟨hs.1,hs.2.1,fun c hc=>Ge (wE _ h).2 hc (hs.2.2 c hc)⟩
def Kc (v:cU) (hg:Fits v.1) (h:FA (.row z4) v.2.2.2.2.2.1) (hv:NW v):kL 20 v:=⟨hv.1,⟨Nat.le_trans hv.2.1 (by decide),fun c hc=>Ge (wE _ h).2 hc (hv.2.2.1 c hc)⟩,Nat.le_trans hv.2.2.2 (by decide),bS hg.1 (Int.lt_add_one_iff.1 hg.2)⟩
def Cw:aa (xb (F_1 ()) fun y:Bool×Unit=>some y) (· = (true,())):=⟨_,aY Kq,rfl⟩
end Go.Proofs.YtdbjakibneeeiaaGreatDoor.Ex
namespace Go.Proofs.YtdbjakibneeeiaaGreatDoor.ax
open Go.RowKit Sx txn queue aL
def sI:dN.fG.Ok Tryz.prog bA 44:=by
 intro O w x vs hw hp hl
 obtain ⟨L,g,u⟩:=x
 obtain ⟨y,us,rfl,h1,y2,us2,rfl,h4,h5⟩:=hl
 have h4:y2=.int .i64 g:=h4
 have h5:us2=[]:=h5
 subst h4 h5
 have hp:(bif rW L g then some (((bg (List.map (α:=Den aX) cX L) g).map fK,()):af [.row cg]) else none).isSome=true:=hp
 cases hd:rW L g with
 | false=>rw [hd] at hp;cases hp
 | true=>
  have hF:dN.fG.F (L,g,u)=((bg (List.map (α:=Den aX) cX L) g).map fK,()):=by
   show (bif rW L g then some (((bg (List.map (α:=Den aX) cX L) g).map fK,()):af [.row cg]) else none).getD _=_
   rw [hd];rfl
  unfold rW at hd
  simp only [Bool.and_eq_true,decide_eq_true_eq] at hd
  obtain ⟨d1,d2,d3,d4⟩:=hd
  obtain ⟨a,n,c,La,rfl,hA,hm⟩:=wS (L:=L) h1 d2
  have hl:=congrArg List.length hm
  have hl2:(List.map (α:=Den aX) cX L).length=List.length (α:=Den aX) L:=List.length_map _
  rw [List.length_map,hl2] at hl
  have hn:=hA.2.1
  have e1:aV La g=bg (L.map cX) g:=(tK La g).trans (congrArg (fun P=>bg P g) hm)
  have h3:=kr.1 d3
  refine (aL.Dn La g a n c w hw hA (by omega) ⟨h3.1,h3.2⟩ (by rw [e1];exact d4)).mono ?_
  rintro e w' ⟨i,hs2,rfl,hb,hg⟩
  refine ⟨[_],rfl,hb,_,_,rfl,?_,rfl⟩
  rw [hF]
  rw [e1] at hs2 hg ⊢
  refine ⟨i.1,_,i.2,ah (bg (L.map cX) g),rfl,hs2,?_,sQ _,fun z hz=>(hg _ (.head _) z hz).2,fun z hz=>.inl (hg _ (.head _) z hz).1⟩
  exact (List.length_map (f:=fK)).symm
end Go.Proofs.YtdbjakibneeeiaaGreatDoor.ax
namespace Go.Proofs.YtdbjakibneeeiaaGreatDoor.Ex
open Go.RowKit Sx
@[irreducible] def F_14 (x:af [(.row z1),.int]):Option (af [(.row z0)]):=(ax.dN:bI).F x
def Rh:bI:=⟨[(.row z1),.int],[(.row z0)],F_14⟩
def XW:Rh=(ax.dN:bI):=congrArg (bI.mk _ _) (funext fun x=>by unfold F_14;rfl)
def Lq:EE:=tB.ad 44 Rh
def Uq:bB Lq:=EE.cP MO (by kernel_rfl) (S:=Rh) (by rw [XW];exact ax.sI)
def O8:FH:=⟨[(3,(line [0,1,2,3,4,5,6,7,8,9,10,11,12,13],[])),(8,(aK [0,1,3,4,2,5,6,7] [8],[]))],[],[],[]⟩
@[irreducible] def F_16 (x:af [z7,z5]):Option (af [z7]):=xf Lq O8 42 x
def Xr:bI:=⟨[z7,z5],[z7],F_16⟩
def LK:EE:=Lq.ad 42 Xr
def Uj:bB LK:=bR Uq O8 (by kernel_rfl) fun x=>by unfold F_16;rfl
def h_10:FH:=⟨[(2,(line [0,1,2,3,4],[2,3])),(7,(line [0,2,1,3,4,5],[2,3])),(26,(aK [0,1,3,4,2,5,6,7] [8],[])),(34,(line [0,1,2,3,4,5],[2,3]))],[],[],[]⟩
@[irreducible] def F_17 (x:af [z7,.int,z5]):Option (af [z7,z5,.int]):=xf LK h_10 15 x
def Ye:bI:=⟨[z7,.int,z5],[z7,z5,.int],F_17⟩
def JY:EE:=LK.ad 15 Ye
def Vl:bB JY:=bR Uj h_10 (by kernel_rfl) fun x=>by unfold F_17;rfl
def h_11:FH:=⟨[(7,(line [0,1,2,3],[2,3]))],[(2,⟨[],0,⟨[.any,.d .int,.any,.d .int,.p 0 0,.any,.p 1 0,.any,.p 2 0,.p 3 0,.d .int]++an 30 [],[some ([.d z7],31),some ([.d z5],38),some ([.d z7],31),some ([.d z5],38)],[]⟩,[(.exit 0,⟨an 4 ([.p 0 0,.any,.p 1 0,.any,.p 2 0,.p 3 0]++an 31 []),[some ([.d z7],31),some ([.d z5],38),some ([.d z7],31),some ([.d z5],38)],[]⟩)]⟩)],[],[]⟩
@[irreducible] def E8 (x:af [z7,.int,z5,.int]):Option (af [z7,z5]):=xf JY h_11 17 x
def WK:bI:=⟨[z7,.int,z5,.int],[z7,z5],E8⟩
def rj:EE:=JY.ad 17 WK
def SQ:bB rj:=bR Vl h_11 (by kernel_rfl) fun x=>by unfold E8;rfl
def LI:FH:=⟨[(4,(p9 [0,2,3,4] (.fork3 1 (.fork3 5 (p9 [6,7,8,9] (.fork 10 (aK [11] [12,13,14]) 11 (aK [10] [12,13,14]))) 10 (.fork 5 (aK [6,7,8,9,11] [12,13,14]) 11 (aK [5,6,7,8,9] [12,13,14])) 11 (.fork 5 (aK [6,7,8,9,10] [12,13,14]) 10 (aK [5,6,7,8,9] [12,13,14]))) 10 (.fork 1 (.fork 5 (aK [6,7,8,9,11] [12,13,14]) 11 (aK [5,6,7,8,9] [12,13,14])) 11 (aK [1,5,6,7,8,9] [12,13,14])) 11 (.fork 1 (.fork 5 (aK [6,7,8,9,10] [12,13,14]) 10 (aK [5,6,7,8,9] [12,13,14])) 10 (aK [1,5,6,7,8,9] [12,13,14]))),[])),(6,(p9 [0,2,3,4,5,6] (.fork3 1 (.fork3 7 (p9 [8,9,10] (.fork 11 (aK [12] [13,14]) 12 (aK [11] [13,14]))) 11 (.fork 7 (aK [8,9,10,12] [13,14]) 12 (aK [7,8,9,10] [13,14])) 12 (.fork 7 (aK [8,9,10,11] [13,14]) 11 (aK [7,8,9,10] [13,14]))) 11 (.fork 1 (.fork 7 (aK [8,9,10,12] [13,14]) 12 (aK [7,8,9,10] [13,14])) 12 (aK [1,7,8,9,10] [13,14])) 12 (.fork 1 (.fork 7 (aK [8,9,10,11] [13,14]) 11 (aK [7,8,9,10] [13,14])) 11 (aK [1,7,8,9,10] [13,14]))),[])),(8,(line [0,2,1,3,4,5,6,8,7,9,10,11,12,13,14,15,16,17,18,20,19,21,22,23,24,25,27,26,28,29,30],[])),(10,(line [0,2,3,4,6,7,8,9,1,5,10,11,12,13,14,17,18,15,16,19,20,21,22,23,24,25],[]))],[],[],[(4,⟨an 3 ([.p 0 0,.p 1 0,.p 2 0,.any,.p 3 0,.p 4 0,.p 5 0,.d .int]++an 119 []),[some ([.d z7],31),some ([.d z3],32),some ([.d z5],38),some ([.d z5],46),some ([.d z7],50),some ([.d z5],46)],[]⟩),(6,⟨an 3 ([.p 0 0,.p 1 0,.p 2 0,.any,.p 3 0,.p 4 0,.p 5 0,.d .int,.p 6 0,.p 7 0,.d .int,.p 8 0,.p 9 0]++an 114 []),[some ([.d z7],31),some ([.d z3],32),some ([.d z5],38),some ([.d z5],46),some ([.d z7],50),some ([.d z5],46),some ([.d z7],31),some ([.d z5],38),some ([.d z7],50),some ([.d z5],46)],[]⟩)]⟩
@[irreducible] def F_18 (x:af [z7,z3,z5]):Option (af [.bool]):=xf rj LI 3 x
def WC:bI:=⟨[z7,z3,z5],[.bool],F_18⟩
def U7:EE:=rj.ad 3 WC
def Rz:bB U7:=bR SQ LI (by kernel_rfl) fun x=>by unfold F_18;rfl
end Go.Proofs.YtdbjakibneeeiaaGreatDoor.Ex
namespace Go.Proofs.YtdbjakibneeeiaaGreatDoor.Ex
open Go.RowKit Sx
def Uh (x:((List Int)×(Int×Unit))):F_12 x =
 az ((decide (x.2.1≥(0:Int)))==true) (az ((decide (x.2.1<(((List.length x.1):Nat):Int)))==true) (gd (di x.2.1 (List.length x.1)) (gd (decide ((Int.toNat x.2.1)<(List.length x.1))) (some (((List.getD x.1 (Int.toNat x.2.1) (0:Int))==(0:Int)),())))) (some (false,()))) (some (false,())):=by kernel_rfl
def UT (x:((List Int)×(Int×Unit))):F_13 x =
 xb (b6 (S:=(((List Int)×Y3)×(Unit×((List Int)×Unit)))) (R:=((Unit×(Unit×((List Int)×Unit))) ⊕ Empty)) (fun (s0:(((List Int)×Y3)×(Unit×((List Int)×Unit))))=>az (decide (s0.1.2.2.1<(((List.length s0.1.1):Nat):Int))) (az ((decide (s0.1.2.1≥(1:Int)))==true) (gd (di s0.1.2.2.1 (List.length s0.1.1)) (gd (decide ((Int.toNat s0.1.2.2.1)<(List.length s0.1.1))) (az ((List.getD s0.1.1 (Int.toNat s0.1.2.2.1) (0:Int))==s0.1.2.1) (gd ((Nat.ble ((List.length s0.2.2.1)+(List.length (s0.1.2.2.1::[]))) 9223372036854775807)&&(Nat.ble (((List.length s0.2.2.1)+(List.length (s0.1.2.2.1::[])))*(8:Nat)) (140737488355328:Nat))) (gd (dx (s0.1.2.2.1+(1:Int))) (some (.inl ((s0.1.1,(s0.1.2.1,((s0.1.2.2.1+(1:Int)),()))),((),((s0.2.2.1++(s0.1.2.2.1::[])),()))))))) (gd (dx (s0.1.2.2.1+(1:Int))) (some (.inl ((s0.1.1,(s0.1.2.1,((s0.1.2.2.1+(1:Int)),()))),((),s0.2.2)))))))) (gd (dx (s0.1.2.2.1+(1:Int))) (some (.inl ((s0.1.1,(s0.1.2.1,((s0.1.2.2.1+(1:Int)),()))),((),s0.2.2)))))) (some (.inr (.inl ((),((),s0.2.2)))))) bn ((x.1,(x.2.1,((0:Int),()))),((),([],())))) (fun (y1:((Unit×(Unit×((List Int)×Unit))) ⊕ Empty))=>xs y1 (fun (y2:(Unit×(Unit×((List Int)×Unit))))=>some y2.2.2) (fun (y3:Empty)=>xe y3)):=by kernel_rfl
def SX (x:((List Int)×(Int×(Int×Unit)))):FE x =
 az ((decide (x.2.1<(0:Int)))==false) (az ((decide (x.2.1≥(((List.length x.1):Nat):Int)))==false) (az (decide (x.2.2.1<(1:Int))) (some (x.1,((1:Int),()))) (gd (di x.2.1 (List.length x.1)) (gd (decide ((Int.toNat x.2.1)<(List.length x.1))) (az ((List.getD x.1 (Int.toNat x.2.1) (0:Int)) != (0:Int)) (some (x.1,((6:Int),()))) (gd ((Nat.ble ((0:Nat)+(List.length x.1)) 9223372036854775807)&&(Nat.ble (((0:Nat)+(List.length x.1))*(8:Nat)) (140737488355328:Nat))) (gd (di x.2.1 (List.length ([]++x.1))) (gd (decide ((Int.toNat x.2.1)<(List.length ([]++x.1)))) (some ((List.set ([]++x.1) (Int.toNat x.2.1) x.2.2.1),((0:Int),())))))))))) (some (x.1,((1:Int),())))) (some (x.1,((1:Int),()))):=by kernel_rfl
def Ut (x:((List Int)×(Int×(Int×Unit)))):FX x =
 az ((decide (x.2.1<(0:Int)))==false) (az ((decide (x.2.1≥(((List.length x.1):Nat):Int)))==false) (az (decide (x.2.2.1<(1:Int))) (some (x.1,((1:Int),()))) (gd (di x.2.1 (List.length x.1)) (gd (decide ((Int.toNat x.2.1)<(List.length x.1))) (az ((List.getD x.1 (Int.toNat x.2.1) (0:Int)) != x.2.2.1) (some (x.1,((7:Int),()))) (gd ((Nat.ble ((0:Nat)+(List.length x.1)) 9223372036854775807)&&(Nat.ble (((0:Nat)+(List.length x.1))*(8:Nat)) (140737488355328:Nat))) (gd (di x.2.1 (List.length ([]++x.1))) (gd (decide ((Int.toNat x.2.1)<(List.length ([]++x.1)))) (some ((List.set ([]++x.1) (Int.toNat x.2.1) (0:Int)),((0:Int),())))))))))) (some (x.1,((1:Int),())))) (some (x.1,((1:Int),()))):=by kernel_rfl
def QJ (x:(Y7×Unit)):zM x =
 az (decide ((IntKind.wrap IntKind.i64 (x.1.2.2.2.1+(1:Int)))<(2:Int))) (some ((x.1.1,((0:Int),((0:Int),((IntKind.wrap IntKind.i64 (x.1.2.2.2.1+(1:Int))),([],([],x.1.2.2.2.2.2.2)))))),())) (some ((x.1.1,((3:Int),((0:Int),((IntKind.wrap IntKind.i64 (x.1.2.2.2.1+(1:Int))),([],([],x.1.2.2.2.2.2.2)))))),())):=by kernel_rfl
def Uu (x:(Y7×(Y5×Unit))):wI x =
 gd (dx (x.1.2.2.1+(1:Int))) (az ((x.1.2.2.1+(1:Int))==(((List.length x.2.1.2.1):Nat):Int)) (gd (dx (x.1.2.1+(1:Int))) (some ((x.1.1,((x.1.2.1+(1:Int)),((0:Int),x.1.2.2.2))),()))) (some ((x.1.1,(x.1.2.1,((x.1.2.2.1+(1:Int)),x.1.2.2.2))),()))):=by kernel_rfl
def TY (x:(Y7×(Int×(Y5×Unit)))):F_10 x =
 az ((decide (x.2.1<(1:Int)))==false) (xb (NI x.2.2) (fun (y0:(Bool×Unit))=>az (!y0.1) (some (false,())) (az ((decide (x.1.2.2.1≥(0:Int)))==true) (az (x.1.2.1==(0:Int)) (some ((decide (x.1.2.2.1<(((List.length x.2.2.1.2.1):Nat):Int))),())) (az (x.1.2.1==(1:Int)) (some ((decide (x.1.2.2.1<(((List.length x.2.2.1.2.1):Nat):Int))),())) (az (x.1.2.1==(2:Int)) (some ((decide (x.1.2.2.1<(((List.length x.2.2.1.2.1):Nat):Int))),())) (az (x.1.2.1==(3:Int)) (xb (F_12 (x.2.2.1.2.1,(x.1.2.2.1,()))) (fun (y1:(Bool×Unit))=>some y1)) (az (x.1.2.1==(4:Int)) (xb (F_13 (x.2.2.1.2.1,(x.2.1,()))) (fun (y2:((List Int)×Unit))=>some (((((List.length y2.1):Nat):Int)==(((List.length x.2.2.1.2.1):Nat):Int)),()))) (az (x.1.2.1==(5:Int)) (az ((decide (x.1.2.2.1<(((List.length x.2.2.1.2.1):Nat):Int)))==true) (gd (di x.1.2.2.1 (List.length x.2.2.1.2.1)) (gd (decide ((Int.toNat x.1.2.2.1)<(List.length x.2.2.1.2.1))) (some (((List.getD x.2.2.1.2.1 (Int.toNat x.1.2.2.1) (0:Int))==x.2.1),())))) (some (false,()))) (some (false,())))))))) (az (x.1.2.1==(0:Int)) (some (false,())) (az (x.1.2.1==(1:Int)) (some (false,())) (az (x.1.2.1==(2:Int)) (some (false,())) (az (x.1.2.1==(3:Int)) (xb (F_12 (x.2.2.1.2.1,(x.1.2.2.1,()))) (fun (y3:(Bool×Unit))=>some y3)) (az (x.1.2.1==(4:Int)) (xb (F_13 (x.2.2.1.2.1,(x.2.1,()))) (fun (y4:((List Int)×Unit))=>some (((((List.length y4.1):Nat):Int)==(((List.length x.2.2.1.2.1):Nat):Int)),()))) (az (x.1.2.1==(5:Int)) (some (false,())) (some (false,()))))))))))) (some (false,())):=by kernel_rfl
def TZ (x:(Int×Unit)):F_19 x =
 some ((x.1,((0:Int),((0:Int),((0:Int),([],([],(((0:Int),(((0:Int),((0:Int),((0:Int),((0:Int),((0:Int),(ByteArray.empty,())))))),([],((0:Int),())))),()))))))),()):=by kernel_rfl
def Tt (x:(Y7×(Y5×Unit))):F_16 x =
 gd (di x.1.2.2.1 (List.length x.2.1.2.1)) (gd (decide ((Int.toNat x.1.2.2.1)<(List.length x.2.1.2.1))) (az (((List.getD x.2.1.2.1 (Int.toNat x.1.2.2.1) (0:Int)) != (0:Int))==false) (az (decide (x.1.2.2.1≥(((List.length x.1.2.2.2.2.1):Nat):Int))) (xb (zM (x.1,())) (fun (y0:(Y7×Unit))=>some y0)) (gd (di x.1.2.2.1 (List.length x.1.2.2.2.2.1)) (gd (decide ((Int.toNat x.1.2.2.1)<(List.length x.1.2.2.2.2.1))) (gd (di x.1.2.2.1 (List.length x.2.1.2.2.2.1)) (gd (decide ((Int.toNat x.1.2.2.1)<(List.length x.2.1.2.2.2.1))) (az ((List.getD x.1.2.2.2.2.1 (Int.toNat x.1.2.2.1) (0:Int)) != (List.getD x.2.1.2.2.2.1 (Int.toNat x.1.2.2.1) ([],((0:Int),()))).2.1) (xb (zM (x.1,())) (fun (y1:(Y7×Unit))=>some y1)) (xb (wI x) (fun (y2:(Y7×Unit))=>az (y2.1.2.1==(3:Int)) (xb (F_15 (y2.1.2.2.2.2.2.1,())) (fun (y3:((List Y1)×Unit))=>xb (F_14 (y3.1,(y2.1.1,()))) (fun (y4:((List Y0)×Unit))=>some ((y2.1.1,((6:Int),(y2.1.2.2.1,(y2.1.2.2.2.1,(y2.1.2.2.2.2.1,(y2.1.2.2.2.2.2.1,(((0:Int),(((0:Int),((0:Int),((0:Int),((0:Int),((0:Int),(ByteArray.empty,())))))),(y4.1,((0:Int),())))),()))))))),())))) (some y2))))))))) (xb (zM (x.1,())) (fun (y5:(Y7×Unit))=>some y5)))):=by kernel_rfl
def SR (x:(Y7×(Int×(Y5×Unit)))):F_17 x =
 xb (F_10 x) (fun (y0:(Bool×Unit))=>az (!y0.1) (some (x.1,(x.2.2.1,((0:Int),())))) (az (x.1.2.1==(0:Int)) (gd (di x.1.2.2.1 (List.length x.2.2.1.2.1)) (gd (decide ((Int.toNat x.1.2.2.1)<(List.length x.2.2.1.2.1))) (az ((List.getD x.2.2.1.2.1 (Int.toNat x.1.2.2.1) (0:Int)) != (0:Int)) (xb (zM (x.1,())) (fun (y1:(Y7×Unit))=>some (y1.1,(x.2.2.1,((0:Int),()))))) (gd ((Nat.ble ((0:Nat)+(List.length x.1.2.2.2.2.1)) 9223372036854775807)&&(Nat.ble (((0:Nat)+(List.length x.1.2.2.2.2.1))*(8:Nat)) (140737488355328:Nat))) (gd (di x.1.2.2.1 (List.length x.2.2.1.2.2.2.1)) (gd (decide ((Int.toNat x.1.2.2.1)<(List.length x.2.2.1.2.2.2.1))) (gd ((Nat.ble ((List.length ([]++x.1.2.2.2.2.1))+(List.length ((List.getD x.2.2.1.2.2.2.1 (Int.toNat x.1.2.2.1) ([],((0:Int),()))).2.1::[]))) 9223372036854775807)&&(Nat.ble (((List.length ([]++x.1.2.2.2.2.1))+(List.length ((List.getD x.2.2.1.2.2.2.1 (Int.toNat x.1.2.2.1) ([],((0:Int),()))).2.1::[])))*(8:Nat)) (140737488355328:Nat))) (xb (wI ((x.1.1,(x.1.2.1,(x.1.2.2.1,(x.1.2.2.2.1,((([]++x.1.2.2.2.2.1)++((List.getD x.2.2.1.2.2.2.1 (Int.toNat x.1.2.2.1) ([],((0:Int),()))).2.1::[])),x.1.2.2.2.2.2))))),x.2.2)) (fun (y2:(Y7×Unit))=>some (y2.1,(x.2.2.1,((0:Int),())))))))))))) (az (x.1.2.1==(1:Int)) (gd ((Nat.ble ((0:Nat)+(List.length x.1.2.2.2.2.2.1)) 9223372036854775807)&&(Nat.ble (((0:Nat)+(List.length x.1.2.2.2.2.2.1))*(32:Nat)) (140737488355328:Nat))) (gd (di x.1.2.2.1 (List.length x.2.2.1.2.2.2.1)) (gd (decide ((Int.toNat x.1.2.2.1)<(List.length x.2.2.1.2.2.2.1))) (gd ((Nat.ble ((List.length ([]++x.1.2.2.2.2.2.1))+(List.length ((List.getD x.2.2.1.2.2.2.1 (Int.toNat x.1.2.2.1) ([],((0:Int),())))::[]))) 9223372036854775807)&&(Nat.ble (((List.length ([]++x.1.2.2.2.2.2.1))+(List.length ((List.getD x.2.2.1.2.2.2.1 (Int.toNat x.1.2.2.1) ([],((0:Int),())))::[])))*(32:Nat)) (140737488355328:Nat))) (xb (wI ((x.1.1,(x.1.2.1,(x.1.2.2.1,(x.1.2.2.2.1,(x.1.2.2.2.2.1,((([]++x.1.2.2.2.2.2.1)++((List.getD x.2.2.1.2.2.2.1 (Int.toNat x.1.2.2.1) ([],((0:Int),())))::[])),x.1.2.2.2.2.2.2)))))),x.2.2)) (fun (y3:(Y7×Unit))=>some (y3.1,(x.2.2.1,((0:Int),()))))))))) (az (x.1.2.1==(2:Int)) (az (x.1.2.2.1==(0:Int)) (xb (F_16 (x.1,x.2.2)) (fun (y4:(Y7×Unit))=>some (y4.1,(x.2.2.1,((1:Int),()))))) (xb (F_16 (x.1,x.2.2)) (fun (y5:(Y7×Unit))=>some (y5.1,(x.2.2.1,((0:Int),())))))) (az (x.1.2.1==(3:Int)) (xb (FE (x.2.2.1.2.1,(x.1.2.2.1,(x.2.1,())))) (fun (y6:((List Int)×(Int×Unit)))=>xb (wI (x.1,((x.2.2.1.1,(y6.1,x.2.2.1.2.2)),()))) (fun (y7:(Y7×Unit))=>some (y7.1,((x.2.2.1.1,(y6.1,x.2.2.1.2.2)),((0:Int),())))))) (az (x.1.2.1==(4:Int)) (xb (F_15 x.2.2.1.2.2.2) (fun (y8:((List Y1)×Unit))=>xb (F_14 (y8.1,(x.1.1,()))) (fun (y9:((List Y0)×Unit))=>some ((x.1.1,((5:Int),((0:Int),(x.1.2.2.2.1,(x.1.2.2.2.2.1,(x.1.2.2.2.2.2.1,(((0:Int),(((0:Int),((0:Int),((0:Int),((0:Int),((0:Int),(ByteArray.empty,())))))),(y9.1,((0:Int),())))),()))))))),(x.2.2.1,((2:Int),())))))) (az (x.1.2.1==(5:Int)) (xb (FX (x.2.2.1.2.1,(x.1.2.2.1,(x.2.1,())))) (fun (y10:((List Int)×(Int×Unit)))=>xb (wI (x.1,((x.2.2.1.1,(y10.1,x.2.2.1.2.2)),()))) (fun (y11:(Y7×Unit))=>some (y11.1,((x.2.2.1.1,(y10.1,x.2.2.1.2.2)),((0:Int),())))))) (some (x.1,(x.2.2.1,((0:Int),()))))))))))):=by kernel_rfl
def RZ (x:(Y7×(Int×(Y5×(Int×Unit))))):E8 x =
 xb (b6 (S:=(Gy×(((Y7×Unit)×((Y5×Unit)×((Y7×Unit)×((Y5×Unit)×Unit))))×Unit))) (R:=((Unit×(((Y7×Unit)×((Y5×Unit)×((Y7×Unit)×((Y5×Unit)×Unit))))×Unit)) ⊕ Empty)) (fun (s0:(Gy×(((Y7×Unit)×((Y5×Unit)×((Y7×Unit)×((Y5×Unit)×Unit))))×Unit)))=>az ((decide (s0.1.2.2.1<s0.1.2.1))==true) (az ((decide (s0.1.2.2.1<(10000:Int)))==true) (xb (F_10 (s0.2.1.1.1,(s0.1.1,s0.2.1.2.1))) (fun (y1:(Bool×Unit))=>az y1.1 (xb (F_17 (s0.2.1.1.1,(s0.1.1,s0.2.1.2.1))) (fun (y2:(Y7×(Y5×(Int×Unit))))=>gd (dx (s0.1.2.2.1+(1:Int))) (some (.inl ((s0.1.1,(s0.1.2.1,((s0.1.2.2.1+(1:Int)),()))),(((y2.1,()),((y2.2.1,()),s0.2.1.2.2)),())))))) (some (.inr (.inl ((),s0.2)))))) (some (.inr (.inl ((),s0.2))))) (some (.inr (.inl ((),s0.2))))) bn ((x.2.1,(x.2.2.2.1,((0:Int),()))),(((x.1,()),((x.2.2.1,()),((((0:Int),((0:Int),((0:Int),((0:Int),([],([],(((0:Int),(((0:Int),((0:Int),((0:Int),((0:Int),((0:Int),(ByteArray.empty,())))))),([],((0:Int),())))),()))))))),()),(((((0:Int),((0:Int),((0:Int),((0:Int),((0:Int),((0:Int),((0:Int),((0:Int),())))))))),([],(((0:Int),((0:Int),())),([],())))),()),())))),()))) (fun (y3:((Unit×(((Y7×Unit)×((Y5×Unit)×((Y7×Unit)×((Y5×Unit)×Unit))))×Unit)) ⊕ Empty))=>xs y3 (fun (y4:(Unit×(((Y7×Unit)×((Y5×Unit)×((Y7×Unit)×((Y5×Unit)×Unit))))×Unit)))=>some (y4.2.1.1.1,y4.2.1.2.1)) (fun (y5:Empty)=>xe y5)):=by kernel_rfl
def RA (x:((List Y1)×(Y1×Unit))):F_11 x =
 xb (b6 (S:=(((List Y1)×(Bool×(Int×Unit)))×(((Y1×Unit)×Unit)×((List Y1)×Unit)))) (R:=(((Bool×Unit)×(((Y1×Unit)×Unit)×((List Y1)×Unit))) ⊕ Empty)) (fun (s0:(((List Y1)×(Bool×(Int×Unit)))×(((Y1×Unit)×Unit)×((List Y1)×Unit))))=>az (decide (s0.1.2.2.1<(((List.length s0.1.1):Nat):Int))) (az ((!s0.1.2.1)==true) (gd (di s0.1.2.2.1 (List.length s0.1.1)) (gd (decide ((Int.toNat s0.1.2.2.1)<(List.length s0.1.1))) (az (decide ((List.getD s0.1.1 (Int.toNat s0.1.2.2.1) ((0:Int),((0:Int),([],())))).1>s0.2.1.1.1.1)) (gd ((Nat.ble ((List.length s0.2.2.1)+(List.length (s0.2.1.1.1::[]))) 9223372036854775807)&&(Nat.ble (((List.length s0.2.2.1)+(List.length (s0.2.1.1.1::[])))*(40:Nat)) (140737488355328:Nat))) (gd (di s0.1.2.2.1 (List.length s0.1.1)) (gd (decide ((Int.toNat s0.1.2.2.1)<(List.length s0.1.1))) (gd ((Nat.ble ((List.length (s0.2.2.1++(s0.2.1.1.1::[])))+(List.length ((List.getD s0.1.1 (Int.toNat s0.1.2.2.1) ((0:Int),((0:Int),([],()))))::[]))) 9223372036854775807)&&(Nat.ble (((List.length (s0.2.2.1++(s0.2.1.1.1::[])))+(List.length ((List.getD s0.1.1 (Int.toNat s0.1.2.2.1) ((0:Int),((0:Int),([],()))))::[])))*(40:Nat)) (140737488355328:Nat))) (gd (dx (s0.1.2.2.1+(1:Int))) (some (.inl ((s0.1.1,(true,((s0.1.2.2.1+(1:Int)),()))),(s0.2.1,(((s0.2.2.1++(s0.2.1.1.1::[]))++((List.getD s0.1.1 (Int.toNat s0.1.2.2.1) ((0:Int),((0:Int),([],()))))::[])),())))))))))) (gd (di s0.1.2.2.1 (List.length s0.1.1)) (gd (decide ((Int.toNat s0.1.2.2.1)<(List.length s0.1.1))) (gd ((Nat.ble ((List.length s0.2.2.1)+(List.length ((List.getD s0.1.1 (Int.toNat s0.1.2.2.1) ((0:Int),((0:Int),([],()))))::[]))) 9223372036854775807)&&(Nat.ble (((List.length s0.2.2.1)+(List.length ((List.getD s0.1.1 (Int.toNat s0.1.2.2.1) ((0:Int),((0:Int),([],()))))::[])))*(40:Nat)) (140737488355328:Nat))) (gd (dx (s0.1.2.2.1+(1:Int))) (some (.inl ((s0.1.1,(s0.1.2.1,((s0.1.2.2.1+(1:Int)),()))),(s0.2.1,((s0.2.2.1++((List.getD s0.1.1 (Int.toNat s0.1.2.2.1) ((0:Int),((0:Int),([],()))))::[])),())))))))))))) (gd (di s0.1.2.2.1 (List.length s0.1.1)) (gd (decide ((Int.toNat s0.1.2.2.1)<(List.length s0.1.1))) (gd ((Nat.ble ((List.length s0.2.2.1)+(List.length ((List.getD s0.1.1 (Int.toNat s0.1.2.2.1) ((0:Int),((0:Int),([],()))))::[]))) 9223372036854775807)&&(Nat.ble (((List.length s0.2.2.1)+(List.length ((List.getD s0.1.1 (Int.toNat s0.1.2.2.1) ((0:Int),((0:Int),([],()))))::[])))*(40:Nat)) (140737488355328:Nat))) (gd (dx (s0.1.2.2.1+(1:Int))) (some (.inl ((s0.1.1,(s0.1.2.1,((s0.1.2.2.1+(1:Int)),()))),(s0.2.1,((s0.2.2.1++((List.getD s0.1.1 (Int.toNat s0.1.2.2.1) ((0:Int),((0:Int),([],()))))::[])),())))))))))) (some (.inr (.inl ((s0.1.2.1,()),s0.2))))) bn ((x.1,(false,((0:Int),()))),((x.2,()),([],())))) (fun (y1:(((Bool×Unit)×(((Y1×Unit)×Unit)×((List Y1)×Unit))) ⊕ Empty))=>xs y1 (fun (y2:((Bool×Unit)×(((Y1×Unit)×Unit)×((List Y1)×Unit))))=>az (!y2.1.1) (gd ((Nat.ble ((List.length y2.2.2.1)+(List.length (y2.2.1.1.1::[]))) 9223372036854775807)&&(Nat.ble (((List.length y2.2.2.1)+(List.length (y2.2.1.1.1::[])))*(40:Nat)) (140737488355328:Nat))) (some ((y2.2.2.1++(y2.2.1.1.1::[])),()))) (some y2.2.2)) (fun (y3:Empty)=>xe y3)):=by kernel_rfl
def Uv (x:((List Y4)×Unit)):F_15 x =
 xb (b6 (S:=(((List Y4)×Y4)×(Unit×Unit))) (R:=((((List Y1)×Unit)×(Unit×Unit)) ⊕ Empty)) (fun (s0:(((List Y4)×Y4)×(Unit×Unit)))=>az (decide (s0.1.2.2.1<(((List.length s0.1.1):Nat):Int))) (xb (b6 (S:=(((List Y4)×((List Y1)×Y3))×(Unit×Unit))) (R:=((((List Y4)×Y4)×(Unit×Unit)) ⊕ Empty)) (fun (s1:(((List Y4)×((List Y1)×Y3))×(Unit×Unit)))=>gd (di s1.1.2.2.1 (List.length s1.1.1)) (gd (decide ((Int.toNat s1.1.2.2.1)<(List.length s1.1.1))) (az (decide (s1.1.2.2.2.1<(((List.length (List.getD s1.1.1 (Int.toNat s1.1.2.2.1) ([],((0:Int),()))).1):Nat):Int))) (gd (di s1.1.2.2.1 (List.length s1.1.1)) (gd (decide ((Int.toNat s1.1.2.2.1)<(List.length s1.1.1))) (gd (di s1.1.2.2.2.1 (List.length (List.getD s1.1.1 (Int.toNat s1.1.2.2.1) ([],((0:Int),()))).1)) (gd (decide ((Int.toNat s1.1.2.2.2.1)<(List.length (List.getD s1.1.1 (Int.toNat s1.1.2.2.1) ([],((0:Int),()))).1))) (xb (F_11 (s1.1.2.1,((List.getD (List.getD s1.1.1 (Int.toNat s1.1.2.2.1) ([],((0:Int),()))).1 (Int.toNat s1.1.2.2.2.1) ((0:Int),((0:Int),([],())))),()))) (fun (y2:((List Y1)×Unit))=>gd (dx (s1.1.2.2.2.1+(1:Int))) (some (.inl ((s1.1.1,(y2.1,(s1.1.2.2.1,((s1.1.2.2.2.1+(1:Int)),())))),((),())))))))))) (some (.inr (.inl ((s1.1.1,(s1.1.2.1,(s1.1.2.2.1,()))),((),())))))))) bn ((s0.1.1,(s0.1.2.1,(s0.1.2.2.1,((0:Int),())))),((),()))) (fun (y3:((((List Y4)×Y4)×(Unit×Unit)) ⊕ Empty))=>xs y3 (fun (y4:(((List Y4)×Y4)×(Unit×Unit)))=>gd (dx (y4.1.2.2.1+(1:Int))) (some (.inl ((y4.1.1,(y4.1.2.1,((y4.1.2.2.1+(1:Int)),()))),((),()))))) (fun (y5:Empty)=>xe y5))) (some (.inr (.inl ((s0.1.2.1,()),((),())))))) bn ((x.1,([],((0:Int),()))),((),()))) (fun (y6:((((List Y1)×Unit)×(Unit×Unit)) ⊕ Empty))=>xs y6 (fun (y7:(((List Y1)×Unit)×(Unit×Unit)))=>some y7.1) (fun (y8:Empty)=>xe y8)):=by kernel_rfl
end Go.Proofs.YtdbjakibneeeiaaGreatDoor.Ex
end
