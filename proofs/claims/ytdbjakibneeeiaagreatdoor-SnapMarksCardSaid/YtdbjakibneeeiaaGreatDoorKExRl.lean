/- live of hopperlaw18: what it comes to, told by its callees. -/
import Derived.Test.YtdbjakibneeeiaaGreatDoorKG39ExTB
set_option linter.all false
set_option maxHeartbeats 4000000
set_option maxRecDepth 100000
namespace Go.Proofs.YtdbjakibneeeiaaGreatDoor.Ex
open Go.RowKit Sx
def repl (g:FuncId) (s:ESm):List (FuncId×ESm)→List (FuncId×ESm)
 | []=>[]
 | (h,t)::l=>(h,bif h==g then s else t)::repl g s l
def keyIn (g:FuncId):List (FuncId×ESm)→Bool
 | []=>false
 | p::l=>p.1==g||keyIn g l
def onceK:List (FuncId×ESm)→Bool
 | []=>true
 | p::l=>!keyIn p.1 l&&onceK l
theorem repl_out {g:FuncId} {s:ESm}:∀{l:List (FuncId×ESm)},keyIn g l=false→repl g s l=l
 | [],_=>rfl
 | (h,t)::l,hk=>by
  have hk:(h==g||keyIn g l)=false:=hk
  rw [Bool.or_eq_false_iff] at hk
  show (h,bif h==g then s else t)::repl g s l=(h,t)::l
  rw [hk.1,repl_out hk.2];rfl
theorem repl_id {g:FuncId} {s:ESm}:∀{l:List (FuncId×ESm)},onceK l=true→lk l g=some s→repl g s l=l
 | [],_,_=>rfl
 | (h,t)::l,ho,hk=>by
  have ho:(!keyIn h l&&onceK l)=true:=ho
  rw [Bool.and_eq_true] at ho
  show (h,bif h==g then s else t)::repl g s l=(h,t)::l
  by_cases e:h=g
  ·subst e
   have hk:(bif h==h then some t else lk l h)=some s:=hk
   rw [beq_self_eq_true] at hk
   rw [beq_self_eq_true,repl_out (by have:=ho.1;cases hh:keyIn h l with | false=>rfl | true=>rw [hh] at this;cases this)]
   cases hk;rfl
  ·have hk:(bif h==g then some t else lk l g)=some s:=hk
   rw [beq_false_of_ne e] at hk
   rw [beq_false_of_ne e,repl_id ho.2 hk];rfl
theorem repl_tr {g:FuncId} {s:ESm} {l l':List (FuncId×ESm)} (h:l'=l) (ho:onceK l=true) (hk:lk l g=some s):repl g s l'=l:=by
 subst h
 exact repl_id ho hk
theorem with_sm {t:EE} {l:List (FuncId×ESm)} (h:l=t.sm):{ t with sm:=l }=t:=by
 subst h
 cases t
 rfl
noncomputable def liveF (fo:DenL [z2]→Option (DenL [z5,.int])) (fe:DenL [z0]→Option (DenL [.str,.bool])) (fn:DenL [z8]→Option (DenL [z11])) (fw:DenL [.int]→Option (DenL [z7])) (fs:DenL [z7,.int,z5]→Option (DenL [z7,z5,.int])) (ft:DenL [z11,.int,z5]→Option (DenL [z11,z5,(.row z9),.bool])) (fr:DenL [z7,.int,z5,.int]→Option (DenL [z7,z5])):Option (DenL [.bool]):=
 xb (fo (((1:Int),((5:Int),((5:Int),((2:Int),((0:Int),((1:Int),((1:Int),((1:Int),())))))))),())) (fun (y0:(Y5×(Int×Unit)))=>xb (fe (((1:Int),((0:Int),((5:Int),((9:Int),((10:Int),(ByteArray.empty,())))))),())) (fun (y1:(ByteArray×(Bool×Unit)))=>xb (fn (((0:Int),((0:Int),((0:Int),((0:Int),(y1.1,()))))),())) (fun (y2:(Y11×Unit))=>xb (fw ((100:Int),())) (fun (y3:(Y7×Unit))=>xb (fs (y3.1,((8:Int),(y0.1,())))) (fun (y4:T8)=>xb (xloop (S:=((Int×Unit)×(((Y5×Unit)×((Y11×Unit)×To))×Unit))) (R:=((Unit×(((Y5×Unit)×To)×Unit)) ⊕ Empty)) (fun (s5:((Int×Unit)×(((Y5×Unit)×((Y11×Unit)×To))×Unit)))=>xbr (decide (s5.1.1<(6:Int))) (xb (ft (s5.2.1.2.1.1,((1:Int),s5.2.1.1))) (fun (y6:(Y11×(Y5×((List Y9)×(Bool×Unit)))))=>gd (inI (s5.1.1+(1:Int))) (some (.inl (((s5.1.1+(1:Int)),()),(((y6.2.1,()),((y6.1,()),s5.2.1.2.2)),())))))) (some (.inr (.inl ((),((s5.2.1.1,s5.2.1.2.2),())))))) xmany (((0:Int),()),(((y0.1,()),(y2,((y4.1,()),()))),()))) (fun (y7:((Unit×(((Y5×Unit)×To)×Unit)) ⊕ Empty))=>xs y7 (fun (y8:(Unit×(((Y5×Unit)×To)×Unit)))=>xb (fs (y8.2.1.2.1.1,((8:Int),y8.2.1.1))) (fun (y9:T8)=>xb (fs (y9.1,((8:Int),y8.2.1.1))) (fun (y10:T8)=>xb (fr (y10.1,((8:Int),(y8.2.1.1.1,((3:Int),()))))) (fun (y11:T1)=>xbr (((((List.length y11.1.2.2.2.2.2.2.1.2.2.1):Nat):Int) != (1:Int))==false) (xbr ((((List.length y11.2.1.2.1):Nat):Int) != (1:Int)) (some (false,())) (xb (@both ((DenL [.int]×(DenLL [[z5],[z7],[z7],[z7],[z5],[z7]]×DenL []))) inferInstance (xb (fw ((100:Int),())) (fun (y12:(Y7×Unit))=>@both ((DenL [.int]×(DenLL [[z5],[z7],[z7],[z7],[z5],[z7]]×DenL []))) inferInstance (xb (fr (y12.1,((8:Int),((y8.2.1.1.1.1,(((4:Int)::[]),y8.2.1.1.1.2.2)),((99:Int),()))))) (fun (y13:T1)=>@both ((DenL [.int]×(DenLL [[z5],[z7],[z7],[z7],[z5],[z7]]×DenL []))) inferInstance (some (y10.2.2,((y8.2.1.1,((y9.1,()),((y10.1,()),((y11.1,()),(y11.2,((y13.1,()),())))))),()))) (some (y10.2.2,((y8.2.1.1,((y9.1,()),((y10.1,()),((y11.1,()),(y11.2,((y13.1,()),())))))),()))))) (@both ((DenL [.int]×(DenLL [[z5],[z7],[z7],[z7],[z5],[z7]]×DenL []))) inferInstance (@both ((DenL [.int]×(DenLL [[z5],[z7],[z7],[z7],[z5],[z7]]×DenL []))) inferInstance (xb (fr (y12.1,((8:Int),((y8.2.1.1.1.1,(((4:Int)::[]),y8.2.1.1.1.2.2)),((99:Int),()))))) (fun (y14:T1)=>some (y10.2.2,((y8.2.1.1,((y9.1,()),((y10.1,()),((y11.1,()),(y11.2,((y14.1,()),())))))),())))) (xb (fr (y12.1,((8:Int),((y8.2.1.1.1.1,(((4:Int)::[]),y8.2.1.1.1.2.2)),((99:Int),()))))) (fun (y15:T1)=>some (y10.2.2,((y8.2.1.1,((y9.1,()),((y10.1,()),((y11.1,()),(y11.2,((y15.1,()),())))))),()))))) (@both ((DenL [.int]×(DenLL [[z5],[z7],[z7],[z7],[z5],[z7]]×DenL []))) inferInstance (xb (fr (y12.1,((8:Int),((y8.2.1.1.1.1,(((4:Int)::[]),y8.2.1.1.1.2.2)),((99:Int),()))))) (fun (y16:T1)=>some (y10.2.2,((y8.2.1.1,((y9.1,()),((y10.1,()),((y11.1,()),(y11.2,((y16.1,()),())))))),())))) (xb (fr (y12.1,((8:Int),((y8.2.1.1.1.1,(((4:Int)::[]),y8.2.1.1.1.2.2)),((99:Int),()))))) (fun (y17:T1)=>some (y10.2.2,((y8.2.1.1,((y9.1,()),((y10.1,()),((y11.1,()),(y11.2,((y17.1,()),())))))),())))))))) (@both ((DenL [.int]×(DenLL [[z5],[z7],[z7],[z7],[z5],[z7]]×DenL []))) inferInstance (@both ((DenL [.int]×(DenLL [[z5],[z7],[z7],[z7],[z5],[z7]]×DenL []))) inferInstance (xb (fw ((100:Int),())) (fun (y18:(Y7×Unit))=>@both ((DenL [.int]×(DenLL [[z5],[z7],[z7],[z7],[z5],[z7]]×DenL []))) inferInstance (xb (fr (y18.1,((8:Int),((y8.2.1.1.1.1,(((4:Int)::[]),y8.2.1.1.1.2.2)),((99:Int),()))))) (fun (y19:T1)=>some (y10.2.2,((y8.2.1.1,((y9.1,()),((y10.1,()),((y11.1,()),(y11.2,((y19.1,()),())))))),())))) (xb (fr (y18.1,((8:Int),((y8.2.1.1.1.1,(((4:Int)::[]),y8.2.1.1.1.2.2)),((99:Int),()))))) (fun (y20:T1)=>some (y10.2.2,((y8.2.1.1,((y9.1,()),((y10.1,()),((y11.1,()),(y11.2,((y20.1,()),())))))),())))))) (xb (fw ((100:Int),())) (fun (y21:(Y7×Unit))=>xb (fr (y21.1,((8:Int),((y8.2.1.1.1.1,(((4:Int)::[]),y8.2.1.1.1.2.2)),((99:Int),()))))) (fun (y22:T1)=>some (y10.2.2,((y8.2.1.1,((y9.1,()),((y10.1,()),((y11.1,()),(y11.2,((y22.1,()),())))))),())))))) (@both ((DenL [.int]×(DenLL [[z5],[z7],[z7],[z7],[z5],[z7]]×DenL []))) inferInstance (xb (fw ((100:Int),())) (fun (y23:(Y7×Unit))=>@both ((DenL [.int]×(DenLL [[z5],[z7],[z7],[z7],[z5],[z7]]×DenL []))) inferInstance (xb (fr (y23.1,((8:Int),((y8.2.1.1.1.1,(((4:Int)::[]),y8.2.1.1.1.2.2)),((99:Int),()))))) (fun (y24:T1)=>some (y10.2.2,((y8.2.1.1,((y9.1,()),((y10.1,()),((y11.1,()),(y11.2,((y24.1,()),())))))),())))) (xb (fr (y23.1,((8:Int),((y8.2.1.1.1.1,(((4:Int)::[]),y8.2.1.1.1.2.2)),((99:Int),()))))) (fun (y25:T1)=>some (y10.2.2,((y8.2.1.1,((y9.1,()),((y10.1,()),((y11.1,()),(y11.2,((y25.1,()),())))))),())))))) (xb (fw ((100:Int),())) (fun (y26:(Y7×Unit))=>xb (fr (y26.1,((8:Int),((y8.2.1.1.1.1,(((4:Int)::[]),y8.2.1.1.1.2.2)),((99:Int),()))))) (fun (y27:T1)=>some (y10.2.2,((y8.2.1.1,((y9.1,()),((y10.1,()),((y11.1,()),(y11.2,((y27.1,()),())))))),())))))))) (fun (y28:((Int×Unit)×(((Y5×Unit)×((Y7×Unit)×((Y7×Unit)×((Y7×Unit)×((Y5×Unit)×To)))))×Unit)))=>xb (fr (y28.2.1.2.2.2.2.2.1.1,((8:Int),(y28.2.1.1.1,((1:Int),()))))) (fun (y29:T1)=>xb (fr (y29.1,((8:Int),(y29.2.1,((99:Int),()))))) (fun (y30:T1)=>xbr ((y28.2.1.2.1.1.2.1==(2:Int))==true) (xbr ((y28.1.1==(1:Int))==true) (xbr ((y28.2.1.2.2.1.1.2.1==(0:Int))==true) (xbr ((y28.2.1.2.2.1.1.2.2.2.1==(1:Int))==true) (xbr ((y28.2.1.2.2.2.1.1.2.1==(6:Int))==true) (gd (inR (0:Int) (List.length y28.2.1.2.2.2.2.1.1.2.1)) (gd (decide ((Int.toNat (0:Int))<(List.length y28.2.1.2.2.2.2.1.1.2.1))) (xbr (((List.getD y28.2.1.2.2.2.2.1.1.2.1 (Int.toNat (0:Int)) (0:Int))==(0:Int))==true) (xbr ((y28.2.1.2.2.2.2.2.1.1.2.1==(3:Int))==true) (xbr ((y28.2.1.2.2.2.2.2.1.1.2.2.2.1==(2:Int))==true) (xbr ((y29.1.2.1==(4:Int))==true) (xbr (((((List.length y29.2.1.2.1):Nat):Int)==(1:Int))==true) (gd (inR (0:Int) (List.length y29.2.1.2.1)) (gd (decide ((Int.toNat (0:Int))<(List.length y29.2.1.2.1))) (xbr (((List.getD y29.2.1.2.1 (Int.toNat (0:Int)) (0:Int))==(8:Int))==true) (xbr ((y30.1.2.1==(6:Int))==true) (xbr (((((List.length y30.1.2.2.2.2.2.2.1.2.2.1):Nat):Int)==(1:Int))==true) (xbr (((((List.length y30.2.1.2.1):Nat):Int)==(1:Int))==true) (gd (inR (0:Int) (List.length y30.2.1.2.1)) (gd (decide ((Int.toNat (0:Int))<(List.length y30.2.1.2.1))) (some (((List.getD y30.2.1.2.1 (Int.toNat (0:Int)) (0:Int))==(0:Int)),())))) (some (false,()))) (some (false,()))) (some (false,()))) (some (false,()))))) (some (false,()))) (some (false,()))) (some (false,()))) (some (false,()))) (some (false,()))))) (some (false,()))) (some (false,()))) (some (false,()))) (some (false,()))) (some (false,()))))))) (some (false,())))))) (fun (y31:Empty)=>xe y31)))))))
theorem live18_gen (fo:DenL [z2]→Option (DenL [z5,.int])) (fe:DenL [z0]→Option (DenL [.str,.bool])) (fn:DenL [z8]→Option (DenL [z11])) (fw:DenL [.int]→Option (DenL [z7])) (fs:DenL [z7,.int,z5]→Option (DenL [z7,z5,.int])) (ft:DenL [z11,.int,z5]→Option (DenL [z11,z5,(.row z9),.bool])) (fr:DenL [z7,.int,z5,.int]→Option (DenL [z7,z5])) (x:DenL []):xfun Tryz.prog EN { t_0 with sm:=(repl 16 ⟨[z7,.int,z5,.int],[z7,z5],fr⟩ (repl 35 ⟨[z11,.int,z5],[z11,z5,(.row z9),.bool],ft⟩ (repl 13 ⟨[z7,.int,z5],[z7,z5,.int],fs⟩ (repl 24 ⟨[.int],[z7],fw⟩ (repl 34 ⟨[z8],[z11],fn⟩ (repl 33 ⟨[z0],[.str,.bool],fe⟩ (repl 32 ⟨[z2],[z5,.int],fo⟩ t_0.sm))))))) } h_1 11 [] [.bool] x=liveF fo fe fn fw fs ft fr:=by kernel_rfl
theorem live18_once:onceK t_0.sm=true:=by kernel_rfl
theorem live18_0:lk t_0.sm 32=some ⟨[z2],[z5,.int],F_a⟩:=by kernel_rfl
theorem live18_1:lk t_0.sm 33=some ⟨[z0],[.str,.bool],F_b⟩:=by kernel_rfl
theorem live18_2:lk t_0.sm 34=some ⟨[z8],[z11],F_c⟩:=by kernel_rfl
theorem live18_3:lk t_0.sm 24=some ⟨[.int],[z7],F_3⟩:=by kernel_rfl
theorem live18_4:lk t_0.sm 13=some ⟨[z7,.int,z5],[z7,z5,.int],F_2⟩:=by kernel_rfl
theorem live18_5:lk t_0.sm 35=some ⟨[z11,.int,z5],[z11,z5,(.row z9),.bool],F_5⟩:=by kernel_rfl
theorem live18_6:lk t_0.sm 16=some ⟨[z7,.int,z5,.int],[z7,z5],F_0⟩:=by kernel_rfl
theorem live18_tab:{ t_0 with sm:=(repl 16 ⟨[z7,.int,z5,.int],[z7,z5],F_0⟩ (repl 35 ⟨[z11,.int,z5],[z11,z5,(.row z9),.bool],F_5⟩ (repl 13 ⟨[z7,.int,z5],[z7,z5,.int],F_2⟩ (repl 24 ⟨[.int],[z7],F_3⟩ (repl 34 ⟨[z8],[z11],F_c⟩ (repl 33 ⟨[z0],[.str,.bool],F_b⟩ (repl 32 ⟨[z2],[z5,.int],F_a⟩ t_0.sm))))))) }=t_0:=
 with_sm (repl_tr (repl_tr (repl_tr (repl_tr (repl_tr (repl_tr (repl_tr (rfl:t_0.sm=t_0.sm) live18_once live18_0) live18_once live18_1) live18_once live18_2) live18_once live18_3) live18_once live18_4) live18_once live18_5) live18_once live18_6)
theorem R_00 (x:DenL []):F_1 x=liveF F_a F_b F_c F_3 F_2 F_5 F_0:=by
 have h:=live18_gen F_a F_b F_c F_3 F_2 F_5 F_0 x
 rw [live18_tab] at h
 unfold F_1
 exact h
end Go.Proofs.YtdbjakibneeeiaaGreatDoor.Ex
