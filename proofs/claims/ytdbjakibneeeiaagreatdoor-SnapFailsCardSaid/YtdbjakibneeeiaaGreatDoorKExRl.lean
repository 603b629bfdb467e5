/- live of hopperlaw18: what it comes to, told by its callees. -/
import Derived.Test.YtdbjakibneeeiaaGreatDoorKG36ExPc
set_option linter.all false
set_option maxHeartbeats 4000000
set_option maxRecDepth 100000
namespace Go.Proofs.YtdbjakibneeeiaaGreatDoor.Ex
open Go.RowKit Sx
def iH (g:FuncId) (s:bI):List Tw→List Tw
 | []=>[]
 | (h,t)::l=>(h,bif h==g then s else t)::iH g s l
def uZ (g:FuncId):List Tw→Bool
 | []=>false
 | p::l=>p.1==g||uZ g l
def vn:List Tw→Bool
 | []=>true
 | p::l=>!uZ p.1 l&&vn l
def xY {g:FuncId} {s:bI}:∀{l:List Tw},uZ g l=false→iH g s l=l
 | [],_=>rfl
 | (h,t)::l,hk=>by
  have hk:(h==g||uZ g l)=false:=hk
  rw [Bool.or_eq_false_iff] at hk
  show (h,bif h==g then s else t)::iH g s l=(h,t)::l
  rw [hk.1,xY hk.2];rfl
def Ca {g:FuncId} {s:bI}:∀{l:List Tw},vn l=true→lk l g=some s→iH g s l=l
 | [],_,_=>rfl
 | (h,t)::l,ho,hk=>by
  have ho:(!uZ h l&&vn l)=true:=ho
  rw [Bool.and_eq_true] at ho
  show (h,bif h==g then s else t)::iH g s l=(h,t)::l
  by_cases e:h=g
  ·subst e
   have hk:(bif h==h then some t else lk l h)=some s:=hk
   rw [beq_self_eq_true] at hk
   rw [beq_self_eq_true,xY (by have:=ho.1;cases hh:uZ h l with | false=>rfl | true=>rw [hh] at this;cases this)]
   cases hk;rfl
  ·have hk:(bif h==g then some t else lk l g)=some s:=hk
   rw [beq_false_of_ne e] at hk
   rw [beq_false_of_ne e,Ca ho.2 hk];rfl
def iV {g:FuncId} {s:bI} {l l':List Tw} (h:l'=l) (ho:vn l=true) (hk:lk l g=some s):iH g s l'=l:=by
 subst h
 exact Ca ho hk
def BR {t:EE} {l:List Tw} (h:l=t.sm):{ t with sm:=l }=t:=by
 subst h
 cases t
 rfl
noncomputable def C3 (fo:af [z2]→Option (af [z5,.int])) (fe:af [z0]→Option (af [.str,.bool])) (fn:af [z8]→Option (af [ji])) (fw:af [.int]→Option (af [z7])) (fs:af [z7,.int,z5]→Option (af [z7,z5,.int])) (ft:af [ji,.int,z5]→Option (af [ji,z5,(.row z9),.bool])) (fr:af [z7,.int,z5,.int]→Option (af [z7,z5])):Option (af [.bool]):=
 xb (fo (((1:Int),((5:Int),((5:Int),((2:Int),((0:Int),((1:Int),((1:Int),((1:Int),())))))))),())) (fun (y0:(Y5×(Int×Unit)))=>xb (fe (((1:Int),((0:Int),((5:Int),((9:Int),((10:Int),(ByteArray.empty,())))))),())) (fun (y1:(ByteArray×(Bool×Unit)))=>xb (fn (((0:Int),((0:Int),((0:Int),((0:Int),(y1.1,()))))),())) (fun (y2:(Ep×Unit))=>xb (fw ((100:Int),())) (fun (y3:(Y7×Unit))=>xb (fs (y3.1,((8:Int),(y0.1,())))) (fun (y4:Ta)=>xb (b6 (S:=((Int×Unit)×(((Y5×Unit)×((Ep×Unit)×Ts))×Unit))) (R:=((Unit×(((Y5×Unit)×Ts)×Unit)) ⊕ Empty)) (fun (s5:((Int×Unit)×(((Y5×Unit)×((Ep×Unit)×Ts))×Unit)))=>az (decide (s5.1.1<(6:Int))) (xb (ft (s5.2.1.2.1.1,((1:Int),s5.2.1.1))) (fun (y6:(Ep×(Y5×((List Y9)×(Bool×Unit)))))=>gd (dx (s5.1.1+(1:Int))) (some (.inl (((s5.1.1+(1:Int)),()),(((y6.2.1,()),((y6.1,()),s5.2.1.2.2)),())))))) (some (.inr (.inl ((),((s5.2.1.1,s5.2.1.2.2),())))))) bn (((0:Int),()),(((y0.1,()),(y2,((y4.1,()),()))),()))) (fun (y7:((Unit×(((Y5×Unit)×Ts)×Unit)) ⊕ Empty))=>xs y7 (fun (y8:(Unit×(((Y5×Unit)×Ts)×Unit)))=>xb (fs (y8.2.1.2.1.1,((8:Int),y8.2.1.1))) (fun (y9:Ta)=>xb (fs (y9.1,((8:Int),y8.2.1.1))) (fun (y10:Ta)=>xb (fr (y10.1,((8:Int),(y8.2.1.1.1,((3:Int),()))))) (fun (y11:T0)=>az (((((List.length y11.1.2.2.2.2.2.2.1.2.2.1):Nat):Int) != (1:Int))==false) (az ((((List.length y11.2.1.2.1):Nat):Int) != (1:Int)) (some (false,())) (xb (@both ((af [.int]×(bq [[z5],[z7],[z7],[z7],[z5],[z7]]×af []))) inferInstance (xb (fw ((100:Int),())) (fun (y12:(Y7×Unit))=>@both ((af [.int]×(bq [[z5],[z7],[z7],[z7],[z5],[z7]]×af []))) inferInstance (xb (fr (y12.1,((8:Int),((y8.2.1.1.1.1,(((4:Int)::[]),y8.2.1.1.1.2.2)),((99:Int),()))))) (fun (y13:T0)=>@both ((af [.int]×(bq [[z5],[z7],[z7],[z7],[z5],[z7]]×af []))) inferInstance (some (y10.2.2,((y8.2.1.1,((y9.1,()),((y10.1,()),((y11.1,()),(y11.2,((y13.1,()),())))))),()))) (some (y10.2.2,((y8.2.1.1,((y9.1,()),((y10.1,()),((y11.1,()),(y11.2,((y13.1,()),())))))),()))))) (@both ((af [.int]×(bq [[z5],[z7],[z7],[z7],[z5],[z7]]×af []))) inferInstance (@both ((af [.int]×(bq [[z5],[z7],[z7],[z7],[z5],[z7]]×af []))) inferInstance (xb (fr (y12.1,((8:Int),((y8.2.1.1.1.1,(((4:Int)::[]),y8.2.1.1.1.2.2)),((99:Int),()))))) (fun (y14:T0)=>some (y10.2.2,((y8.2.1.1,((y9.1,()),((y10.1,()),((y11.1,()),(y11.2,((y14.1,()),())))))),())))) (xb (fr (y12.1,((8:Int),((y8.2.1.1.1.1,(((4:Int)::[]),y8.2.1.1.1.2.2)),((99:Int),()))))) (fun (y15:T0)=>some (y10.2.2,((y8.2.1.1,((y9.1,()),((y10.1,()),((y11.1,()),(y11.2,((y15.1,()),())))))),()))))) (@both ((af [.int]×(bq [[z5],[z7],[z7],[z7],[z5],[z7]]×af []))) inferInstance (xb (fr (y12.1,((8:Int),((y8.2.1.1.1.1,(((4:Int)::[]),y8.2.1.1.1.2.2)),((99:Int),()))))) (fun (y16:T0)=>some (y10.2.2,((y8.2.1.1,((y9.1,()),((y10.1,()),((y11.1,()),(y11.2,((y16.1,()),())))))),())))) (xb (fr (y12.1,((8:Int),((y8.2.1.1.1.1,(((4:Int)::[]),y8.2.1.1.1.2.2)),((99:Int),()))))) (fun (y17:T0)=>some (y10.2.2,((y8.2.1.1,((y9.1,()),((y10.1,()),((y11.1,()),(y11.2,((y17.1,()),())))))),())))))))) (@both ((af [.int]×(bq [[z5],[z7],[z7],[z7],[z5],[z7]]×af []))) inferInstance (@both ((af [.int]×(bq [[z5],[z7],[z7],[z7],[z5],[z7]]×af []))) inferInstance (xb (fw ((100:Int),())) (fun (y18:(Y7×Unit))=>@both ((af [.int]×(bq [[z5],[z7],[z7],[z7],[z5],[z7]]×af []))) inferInstance (xb (fr (y18.1,((8:Int),((y8.2.1.1.1.1,(((4:Int)::[]),y8.2.1.1.1.2.2)),((99:Int),()))))) (fun (y19:T0)=>some (y10.2.2,((y8.2.1.1,((y9.1,()),((y10.1,()),((y11.1,()),(y11.2,((y19.1,()),())))))),())))) (xb (fr (y18.1,((8:Int),((y8.2.1.1.1.1,(((4:Int)::[]),y8.2.1.1.1.2.2)),((99:Int),()))))) (fun (y20:T0)=>some (y10.2.2,((y8.2.1.1,((y9.1,()),((y10.1,()),((y11.1,()),(y11.2,((y20.1,()),())))))),())))))) (xb (fw ((100:Int),())) (fun (y21:(Y7×Unit))=>xb (fr (y21.1,((8:Int),((y8.2.1.1.1.1,(((4:Int)::[]),y8.2.1.1.1.2.2)),((99:Int),()))))) (fun (y22:T0)=>some (y10.2.2,((y8.2.1.1,((y9.1,()),((y10.1,()),((y11.1,()),(y11.2,((y22.1,()),())))))),())))))) (@both ((af [.int]×(bq [[z5],[z7],[z7],[z7],[z5],[z7]]×af []))) inferInstance (xb (fw ((100:Int),())) (fun (y23:(Y7×Unit))=>@both ((af [.int]×(bq [[z5],[z7],[z7],[z7],[z5],[z7]]×af []))) inferInstance (xb (fr (y23.1,((8:Int),((y8.2.1.1.1.1,(((4:Int)::[]),y8.2.1.1.1.2.2)),((99:Int),()))))) (fun (y24:T0)=>some (y10.2.2,((y8.2.1.1,((y9.1,()),((y10.1,()),((y11.1,()),(y11.2,((y24.1,()),())))))),())))) (xb (fr (y23.1,((8:Int),((y8.2.1.1.1.1,(((4:Int)::[]),y8.2.1.1.1.2.2)),((99:Int),()))))) (fun (y25:T0)=>some (y10.2.2,((y8.2.1.1,((y9.1,()),((y10.1,()),((y11.1,()),(y11.2,((y25.1,()),())))))),())))))) (xb (fw ((100:Int),())) (fun (y26:(Y7×Unit))=>xb (fr (y26.1,((8:Int),((y8.2.1.1.1.1,(((4:Int)::[]),y8.2.1.1.1.2.2)),((99:Int),()))))) (fun (y27:T0)=>some (y10.2.2,((y8.2.1.1,((y9.1,()),((y10.1,()),((y11.1,()),(y11.2,((y27.1,()),())))))),())))))))) (fun (y28:((Int×Unit)×(((Y5×Unit)×((Y7×Unit)×((Y7×Unit)×((Y7×Unit)×((Y5×Unit)×Ts)))))×Unit)))=>xb (fr (y28.2.1.2.2.2.2.2.1.1,((8:Int),(y28.2.1.1.1,((1:Int),()))))) (fun (y29:T0)=>xb (fr (y29.1,((8:Int),(y29.2.1,((99:Int),()))))) (fun (y30:T0)=>az ((y28.2.1.2.1.1.2.1==(2:Int))==true) (az ((y28.1.1==(1:Int))==true) (az ((y28.2.1.2.2.1.1.2.1==(0:Int))==true) (az ((y28.2.1.2.2.1.1.2.2.2.1==(1:Int))==true) (az ((y28.2.1.2.2.2.1.1.2.1==(6:Int))==true) (gd (di (0:Int) (List.length y28.2.1.2.2.2.2.1.1.2.1)) (gd (decide ((Int.toNat (0:Int))<(List.length y28.2.1.2.2.2.2.1.1.2.1))) (az (((List.getD y28.2.1.2.2.2.2.1.1.2.1 (Int.toNat (0:Int)) (0:Int))==(0:Int))==true) (az ((y28.2.1.2.2.2.2.2.1.1.2.1==(3:Int))==true) (az ((y28.2.1.2.2.2.2.2.1.1.2.2.2.1==(2:Int))==true) (az ((y29.1.2.1==(4:Int))==true) (az (((((List.length y29.2.1.2.1):Nat):Int)==(1:Int))==true) (gd (di (0:Int) (List.length y29.2.1.2.1)) (gd (decide ((Int.toNat (0:Int))<(List.length y29.2.1.2.1))) (az (((List.getD y29.2.1.2.1 (Int.toNat (0:Int)) (0:Int))==(8:Int))==true) (az ((y30.1.2.1==(6:Int))==true) (az (((((List.length y30.1.2.2.2.2.2.2.1.2.2.1):Nat):Int)==(1:Int))==true) (az (((((List.length y30.2.1.2.1):Nat):Int)==(1:Int))==true) (gd (di (0:Int) (List.length y30.2.1.2.1)) (gd (decide ((Int.toNat (0:Int))<(List.length y30.2.1.2.1))) (some (((List.getD y30.2.1.2.1 (Int.toNat (0:Int)) (0:Int))==(0:Int)),())))) (some (false,()))) (some (false,()))) (some (false,()))) (some (false,()))))) (some (false,()))) (some (false,()))) (some (false,()))) (some (false,()))) (some (false,()))))) (some (false,()))) (some (false,()))) (some (false,()))) (some (false,()))) (some (false,()))))))) (some (false,())))))) (fun (y31:Empty)=>xe y31)))))))
def BF (fo:af [z2]→Option (af [z5,.int])) (fe:af [z0]→Option (af [.str,.bool])) (fn:af [z8]→Option (af [ji])) (fw:af [.int]→Option (af [z7])) (fs:af [z7,.int,z5]→Option (af [z7,z5,.int])) (ft:af [ji,.int,z5]→Option (af [ji,z5,(.row z9),.bool])) (fr:af [z7,.int,z5,.int]→Option (af [z7,z5])) (x:af []):Tr Tryz.prog EN { xV with sm:=(iH 16 ⟨[z7,.int,z5,.int],[z7,z5],fr⟩ (iH 35 ⟨[ji,.int,z5],[ji,z5,(.row z9),.bool],ft⟩ (iH 13 ⟨[z7,.int,z5],[z7,z5,.int],fs⟩ (iH 24 ⟨[.int],[z7],fw⟩ (iH 34 ⟨[z8],[ji],fn⟩ (iH 33 ⟨[z0],[.str,.bool],fe⟩ (iH 32 ⟨[z2],[z5,.int],fo⟩ xV.sm))))))) } h_1 11 [] [.bool] x=C3 fo fe fn fw fs ft fr:=by kernel_rfl
def dL:vn xV.sm=true:=by kernel_rfl
def Fx:lk xV.sm 32=some ⟨[z2],[z5,.int],Ji⟩:=by kernel_rfl
def Et:lk xV.sm 33=some ⟨[z0],[.str,.bool],IZ⟩:=by kernel_rfl
def FJ:lk xV.sm 34=some ⟨[z8],[ji],IJ⟩:=by kernel_rfl
def Gw:lk xV.sm 24=some ⟨[.int],[z7],F_3⟩:=by kernel_rfl
def FF:lk xV.sm 13=some ⟨[z7,.int,z5],[z7,z5,.int],F_2⟩:=by kernel_rfl
def E1:lk xV.sm 35=some ⟨[ji,.int,z5],[ji,z5,(.row z9),.bool],F_5⟩:=by kernel_rfl
def EI:lk xV.sm 16=some ⟨[z7,.int,z5,.int],[z7,z5],rK⟩:=by kernel_rfl
def AH:{ xV with sm:=(iH 16 ⟨[z7,.int,z5,.int],[z7,z5],rK⟩ (iH 35 ⟨[ji,.int,z5],[ji,z5,(.row z9),.bool],F_5⟩ (iH 13 ⟨[z7,.int,z5],[z7,z5,.int],F_2⟩ (iH 24 ⟨[.int],[z7],F_3⟩ (iH 34 ⟨[z8],[ji],IJ⟩ (iH 33 ⟨[z0],[.str,.bool],IZ⟩ (iH 32 ⟨[z2],[z5,.int],Ji⟩ xV.sm))))))) }=xV:=
 BR (iV (iV (iV (iV (iV (iV (iV (rfl:xV.sm=xV.sm) dL Fx) dL Et) dL FJ) dL Gw) dL FF) dL E1) dL EI)
def SU (x:af []):F_1 x=C3 Ji IZ IJ F_3 F_2 F_5 rK:=by
 have h:=BF Ji IZ IJ F_3 F_2 F_5 rK x
 rw [AH] at h
 unfold F_1
 exact h
end Go.Proofs.YtdbjakibneeeiaaGreatDoor.Ex
