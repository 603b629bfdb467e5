/- The laws: what they come to, told by live as a variable. -/
import Derived.Test.YtdbjakibneeeiaaGreatDoorKG45ExRi
import Derived.Test.YtdbjakibneeeiaaGreatDoorKExRl
set_option linter.all false
set_option maxHeartbeats 4000000
set_option maxRecDepth 100000
namespace Go.Proofs.YtdbjakibneeeiaaGreatDoor.Ex.d
open Go.RowKit Sx
def YZ (g:FuncId):List Tw→Bool
 | []=>true
 | (h,_)::l=>bif h==g then !uZ g l else YZ g l
def Z2 {g:FuncId} {s:bI}:∀{l:List Tw},YZ g l=true→lk l g=some s→iH g s l=l
 | [],_,_=>rfl
 | (h,t)::l,ho,hk=>by
  by_cases e:h=g
  ·subst e
   have ho:(bif h==h then !uZ h l else YZ h l)=true:=ho
   have hk:(bif h==h then some t else lk l h)=some s:=hk
   rw [beq_self_eq_true] at ho hk
   show (h,bif h==h then s else t)::iH h s l=(h,t)::l
   rw [beq_self_eq_true,xY (by cases hh:uZ h l with | false=>rfl | true=>rw [hh] at ho;cases ho)]
   cases hk;rfl
  ·have ho:(bif h==g then !uZ g l else YZ g l)=true:=ho
   have hk:(bif h==g then some t else lk l g)=some s:=hk
   rw [beq_false_of_ne e] at ho hk
   show (h,bif h==g then s else t)::iH g s l=(h,t)::l
   rw [beq_false_of_ne e,Z2 ho hk];rfl
abbrev eD:Option ((af [(.row z1)]×(bq [[z5],[z6],[z7],[z5]]×af [])))→Option ((af [(.row z1)]×(bq [[z5],[z6],[z7],[z5]]×af [])))→Option ((af [(.row z1)]×(bq [[z5],[z6],[z7],[z5]]×af []))):=@both ((af [(.row z1)]×(bq [[z5],[z6],[z7],[z5]]×af []))) inferInstance
noncomputable def W_4 (fl:af []→Option (af [.bool])) (x:(Int×Tg)):Option (af [.bool]):=
 xb (Me x.2.2) (fun (y0:(Bool×Unit))=>az ((!y0.1)==false) (xb (NI x.2.2) (fun (y1:(Bool×Unit))=>az ((!y1.1)==false) (az (decide (x.2.1<(1:Int))) (xb (fl ()) (fun (y2:(Bool×Unit))=>some y2)) (xb (b6 (S:=(Gy×(T4×Unit))) (R:=(T1 ⊕ (Tl ⊕ Empty))) (fun (s3:(Gy×(T4×Unit)))=>az (decide (s3.1.2.2.1<(((List.length s3.2.1.1.1.2.1):Nat):Int))) (gd (di s3.1.2.2.1 (List.length s3.2.1.1.1.2.1)) (gd (decide ((Int.toNat s3.1.2.2.1)<(List.length s3.2.1.1.1.2.1))) (az ((List.getD s3.2.1.1.1.2.1 (Int.toNat s3.1.2.2.1) (0:Int)) != (0:Int)) (xb (fl ()) (fun (y4:(Bool×Unit))=>some (.inr (.inl (y4,((),())))))) (gd (dx (s3.1.2.2.1+(1:Int))) (some (.inl ((s3.1.1,(s3.1.2.1,((s3.1.2.2.1+(1:Int)),()))),s3.2))))))) (some (.inr (.inr (.inl ((s3.1.1,(s3.1.2.1,())),s3.2)))))) bn ((x.1,(x.2.1,((0:Int),()))),((x.2.2,()),()))) (fun (y5:(T1 ⊕ (Tl ⊕ Empty)))=>xs y5 (fun (y6:T1)=>some y6.1) (fun (y7:(Tl ⊕ Empty))=>xs y7 (fun (y8:Tl)=>xb (F_15 y8.2.1.1.1.2.2.2) (fun (y9:Ti)=>xb (YY (y8.2.1.1.1.1,(y9.1,(((5:Int),((0:Int),((0:Int),(y8.1.1,(ByteArray.empty,()))))),())))) (fun (y10:Tu)=>xb (gd (dx ((3:Int)*(((List.length y8.2.1.1.1.2.1):Nat):Int))) (eD (xb (F_3 (y8.1.1,())) (fun (y11:(Y7×Unit))=>eD (xb (F_4 y8.2.1.1) (fun (y12:(Y5×Unit))=>eD (xb (rK (y11.1,(y8.1.2.1,(y12.1,(((3:Int)*(((List.length y8.2.1.1.1.2.1):Nat):Int)),()))))) (fun (y13:T0)=>eD (some (y9,((y8.2.1.1,((y10.2.1,()),((y13.1,()),(y13.2,())))),()))) (some (y9,((y8.2.1.1,((y10.2.1,()),((y13.1,()),(y13.2,())))),()))))) (eD (eD (xb (rK (y11.1,(y8.1.2.1,(y12.1,(((3:Int)*(((List.length y8.2.1.1.1.2.1):Nat):Int)),()))))) (fun (y14:T0)=>some (y9,((y8.2.1.1,((y10.2.1,()),((y14.1,()),(y14.2,())))),())))) (xb (rK (y11.1,(y8.1.2.1,(y12.1,(((3:Int)*(((List.length y8.2.1.1.1.2.1):Nat):Int)),()))))) (fun (y15:T0)=>some (y9,((y8.2.1.1,((y10.2.1,()),((y15.1,()),(y15.2,())))),()))))) (eD (xb (rK (y11.1,(y8.1.2.1,(y12.1,(((3:Int)*(((List.length y8.2.1.1.1.2.1):Nat):Int)),()))))) (fun (y16:T0)=>some (y9,((y8.2.1.1,((y10.2.1,()),((y16.1,()),(y16.2,())))),())))) (xb (rK (y11.1,(y8.1.2.1,(y12.1,(((3:Int)*(((List.length y8.2.1.1.1.2.1):Nat):Int)),()))))) (fun (y17:T0)=>some (y9,((y8.2.1.1,((y10.2.1,()),((y17.1,()),(y17.2,())))),())))))))) (eD (eD (xb (F_4 y8.2.1.1) (fun (y18:(Y5×Unit))=>eD (xb (rK (y11.1,(y8.1.2.1,(y18.1,(((3:Int)*(((List.length y8.2.1.1.1.2.1):Nat):Int)),()))))) (fun (y19:T0)=>some (y9,((y8.2.1.1,((y10.2.1,()),((y19.1,()),(y19.2,())))),())))) (xb (rK (y11.1,(y8.1.2.1,(y18.1,(((3:Int)*(((List.length y8.2.1.1.1.2.1):Nat):Int)),()))))) (fun (y20:T0)=>some (y9,((y8.2.1.1,((y10.2.1,()),((y20.1,()),(y20.2,())))),())))))) (xb (F_4 y8.2.1.1) (fun (y21:(Y5×Unit))=>xb (rK (y11.1,(y8.1.2.1,(y21.1,(((3:Int)*(((List.length y8.2.1.1.1.2.1):Nat):Int)),()))))) (fun (y22:T0)=>some (y9,((y8.2.1.1,((y10.2.1,()),((y22.1,()),(y22.2,())))),())))))) (eD (xb (F_4 y8.2.1.1) (fun (y23:(Y5×Unit))=>eD (xb (rK (y11.1,(y8.1.2.1,(y23.1,(((3:Int)*(((List.length y8.2.1.1.1.2.1):Nat):Int)),()))))) (fun (y24:T0)=>some (y9,((y8.2.1.1,((y10.2.1,()),((y24.1,()),(y24.2,())))),())))) (xb (rK (y11.1,(y8.1.2.1,(y23.1,(((3:Int)*(((List.length y8.2.1.1.1.2.1):Nat):Int)),()))))) (fun (y25:T0)=>some (y9,((y8.2.1.1,((y10.2.1,()),((y25.1,()),(y25.2,())))),())))))) (xb (F_4 y8.2.1.1) (fun (y26:(Y5×Unit))=>xb (rK (y11.1,(y8.1.2.1,(y26.1,(((3:Int)*(((List.length y8.2.1.1.1.2.1):Nat):Int)),()))))) (fun (y27:T0)=>some (y9,((y8.2.1.1,((y10.2.1,()),((y27.1,()),(y27.2,())))),()))))))))) (eD (eD (xb (F_3 (y8.1.1,())) (fun (y28:(Y7×Unit))=>eD (xb (F_4 y8.2.1.1) (fun (y29:(Y5×Unit))=>eD (xb (rK (y28.1,(y8.1.2.1,(y29.1,(((3:Int)*(((List.length y8.2.1.1.1.2.1):Nat):Int)),()))))) (fun (y30:T0)=>some (y9,((y8.2.1.1,((y10.2.1,()),((y30.1,()),(y30.2,())))),())))) (xb (rK (y28.1,(y8.1.2.1,(y29.1,(((3:Int)*(((List.length y8.2.1.1.1.2.1):Nat):Int)),()))))) (fun (y31:T0)=>some (y9,((y8.2.1.1,((y10.2.1,()),((y31.1,()),(y31.2,())))),())))))) (xb (F_4 y8.2.1.1) (fun (y32:(Y5×Unit))=>xb (rK (y28.1,(y8.1.2.1,(y32.1,(((3:Int)*(((List.length y8.2.1.1.1.2.1):Nat):Int)),()))))) (fun (y33:T0)=>some (y9,((y8.2.1.1,((y10.2.1,()),((y33.1,()),(y33.2,())))),()))))))) (xb (F_3 (y8.1.1,())) (fun (y34:(Y7×Unit))=>xb (F_4 y8.2.1.1) (fun (y35:(Y5×Unit))=>xb (rK (y34.1,(y8.1.2.1,(y35.1,(((3:Int)*(((List.length y8.2.1.1.1.2.1):Nat):Int)),()))))) (fun (y36:T0)=>some (y9,((y8.2.1.1,((y10.2.1,()),((y36.1,()),(y36.2,())))),()))))))) (eD (xb (F_3 (y8.1.1,())) (fun (y37:(Y7×Unit))=>eD (xb (F_4 y8.2.1.1) (fun (y38:(Y5×Unit))=>eD (xb (rK (y37.1,(y8.1.2.1,(y38.1,(((3:Int)*(((List.length y8.2.1.1.1.2.1):Nat):Int)),()))))) (fun (y39:T0)=>some (y9,((y8.2.1.1,((y10.2.1,()),((y39.1,()),(y39.2,())))),())))) (xb (rK (y37.1,(y8.1.2.1,(y38.1,(((3:Int)*(((List.length y8.2.1.1.1.2.1):Nat):Int)),()))))) (fun (y40:T0)=>some (y9,((y8.2.1.1,((y10.2.1,()),((y40.1,()),(y40.2,())))),())))))) (xb (F_4 y8.2.1.1) (fun (y41:(Y5×Unit))=>xb (rK (y37.1,(y8.1.2.1,(y41.1,(((3:Int)*(((List.length y8.2.1.1.1.2.1):Nat):Int)),()))))) (fun (y42:T0)=>some (y9,((y8.2.1.1,((y10.2.1,()),((y42.1,()),(y42.2,())))),()))))))) (xb (F_3 (y8.1.1,())) (fun (y43:(Y7×Unit))=>xb (F_4 y8.2.1.1) (fun (y44:(Y5×Unit))=>xb (rK (y43.1,(y8.1.2.1,(y44.1,(((3:Int)*(((List.length y8.2.1.1.1.2.1):Nat):Int)),()))))) (fun (y45:T0)=>some (y9,((y8.2.1.1,((y10.2.1,()),((y45.1,()),(y45.2,())))),())))))))))) (fun (y46:(Ti×(((Y5×Unit)×((Y6×Unit)×((Y7×Unit)×T4)))×Unit)))=>xb (YM (y46.2.1.1.1.1,y46.1)) (fun (y47:(Bool×Unit))=>az (!y47.1) (az ((y46.2.1.2.2.1.1.2.1==(6:Int))==true) (xb (Mi y46.2.1.2.2.2.1) (fun (y48:(Y5×Unit))=>xb (MF (y48.1,y46.2.1.1)) (fun (y49:(Bool×Unit))=>az (y49.1==true) (xb (fl ()) (fun (y50:(Bool×Unit))=>some y50)) (some (false,()))))) (some (false,()))) (az ((y46.2.1.2.2.1.1.2.1==(6:Int))==true) (az ((y46.2.1.2.2.1.1.2.2.2.1==(0:Int))==true) (xb (DV (y46.2.1.2.2.1.1.2.2.2.2.2.2.1,y46.2.1.2.1)) (fun (y51:(Bool×Unit))=>az (y51.1==true) (xb (Mi y46.2.1.2.2.2.1) (fun (y52:(Y5×Unit))=>xb (MF (y52.1,y46.2.1.1)) (fun (y53:(Bool×Unit))=>az (y53.1==true) (xb (fl ()) (fun (y54:(Bool×Unit))=>some y54)) (some (false,()))))) (some (false,())))) (some (false,()))) (some (false,())))))))) (fun (y55:Empty)=>xe y55))))) (xb (fl ()) (fun (y56:(Bool×Unit))=>some y56)))) (xb (fl ()) (fun (y57:(Bool×Unit))=>some y57)))
def Yv (fl:af []→Option (af [.bool])) (x:(Int×Tg)):Tr Tryz.prog EN { Yx with sm:=iH 11 ⟨[],[.bool],fl⟩ Yx.sm } h_17 4 [.int,.int,z5] [.bool] x=W_4 fl x:=by kernel_rfl
def Yu:YZ 11 Yx.sm=true:=by kernel_rfl
def YA:lk Yx.sm 11=some ⟨[],[.bool],F_1⟩:=by kernel_rfl
def Yw:{ Yx with sm:=iH 11 ⟨[],[.bool],F_1⟩ Yx.sm }=Yx:=
 BR (Z2 Yu YA)
def a0A (x:(Int×Tg)):Zg x=W_4 F_1 x:=by
 have h:=Yv F_1 x
 rw [Yw] at h
 unfold Zg
 exact h
end Go.Proofs.YtdbjakibneeeiaaGreatDoor.Ex.d
