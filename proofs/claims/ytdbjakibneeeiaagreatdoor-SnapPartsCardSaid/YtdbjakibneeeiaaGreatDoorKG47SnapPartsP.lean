/- The laws: what they come to, told by live as a variable. -/
import Derived.Test.YtdbjakibneeeiaaGreatDoorKG40ExPi
import Derived.Test.YtdbjakibneeeiaaGreatDoorKExRl
import Derived.Test.YtdbjakibneeeiaaGreatDoorKExPk
set_option linter.all false
set_option maxHeartbeats 4000000
set_option maxRecDepth 100000
namespace Go.Proofs.YtdbjakibneeeiaaGreatDoor.Ex
open Go.RowKit Sx
abbrev jParts0:Option ((DenL []×(DenLL [[z7],[z5],[z7],[z5]]×DenL [])))→Option ((DenL []×(DenLL [[z7],[z5],[z7],[z5]]×DenL [])))→Option ((DenL []×(DenLL [[z7],[z5],[z7],[z5]]×DenL []))):=@both ((DenL []×(DenLL [[z7],[z5],[z7],[z5]]×DenL []))) inferInstance
abbrev jParts1:Option ((DenL []×(DenLL [[z7],[z14],[z5],[z7],[z5]]×DenL [])))→Option ((DenL []×(DenLL [[z7],[z14],[z5],[z7],[z5]]×DenL [])))→Option ((DenL []×(DenLL [[z7],[z14],[z5],[z7],[z5]]×DenL []))):=@both ((DenL []×(DenLL [[z7],[z14],[z5],[z7],[z5]]×DenL []))) inferInstance
noncomputable def W_0 (fl:DenL []→Option (DenL [.bool])) (x:(Y7×(Y14×(Y5×Unit)))):Option (DenL [.bool]):=
 xb (F_e x.2.2) (fun (y0:(Bool×Unit))=>xbr ((!y0.1)==false) (xb (F_W (x.1,())) (fun (y1:(Bool×Unit))=>xbr ((!y1.1)==false) (gd (inR (1:Int) (3:Nat)) (xbr ((decide (x.2.1.2.1<(0:Int)))==false) (gd (inR (1:Int) (3:Nat)) (xbr ((decide (x.2.1.2.1>(60:Int)))==false) (gd (inR (2:Int) (3:Nat)) (xbr ((decide (x.2.1.2.2.1<(0:Int)))==false) (gd (inR (2:Int) (3:Nat)) (xbr (decide (x.2.1.2.2.1>(60:Int))) (xb (fl ()) (fun (y2:(Bool×Unit))=>some y2)) (xb (F_4 x.2.2) (fun (y3:(Y5×Unit))=>xb (gd (inR (0:Int) (3:Nat)) (gd (inR (1:Int) (3:Nat)) (jParts1 (xb (F_6 (x.1,())) (fun (y4:(Y7×Unit))=>jParts1 (xb (F_0 (y4.1,(x.2.1.1,(y3.1,(x.2.1.2.1,()))))) (fun (y5:T1)=>jParts1 (some ((),(((x.1,()),((x.2.1,()),(y3,((y5.1,()),(y5.2,()))))),()))) (some ((),(((x.1,()),((x.2.1,()),(y3,((y5.1,()),(y5.2,()))))),()))))) (jParts1 (jParts1 (xb (F_0 (y4.1,(x.2.1.1,(y3.1,(x.2.1.2.1,()))))) (fun (y6:T1)=>some ((),(((x.1,()),((x.2.1,()),(y3,((y6.1,()),(y6.2,()))))),())))) (xb (F_0 (y4.1,(x.2.1.1,(y3.1,(x.2.1.2.1,()))))) (fun (y7:T1)=>some ((),(((x.1,()),((x.2.1,()),(y3,((y7.1,()),(y7.2,()))))),()))))) (jParts1 (xb (F_0 (y4.1,(x.2.1.1,(y3.1,(x.2.1.2.1,()))))) (fun (y8:T1)=>some ((),(((x.1,()),((x.2.1,()),(y3,((y8.1,()),(y8.2,()))))),())))) (xb (F_0 (y4.1,(x.2.1.1,(y3.1,(x.2.1.2.1,()))))) (fun (y9:T1)=>some ((),(((x.1,()),((x.2.1,()),(y3,((y9.1,()),(y9.2,()))))),())))))))) (jParts1 (jParts1 (xb (F_6 (x.1,())) (fun (y10:(Y7×Unit))=>jParts1 (xb (F_0 (y10.1,(x.2.1.1,(y3.1,(x.2.1.2.1,()))))) (fun (y11:T1)=>some ((),(((x.1,()),((x.2.1,()),(y3,((y11.1,()),(y11.2,()))))),())))) (xb (F_0 (y10.1,(x.2.1.1,(y3.1,(x.2.1.2.1,()))))) (fun (y12:T1)=>some ((),(((x.1,()),((x.2.1,()),(y3,((y12.1,()),(y12.2,()))))),())))))) (xb (F_6 (x.1,())) (fun (y13:(Y7×Unit))=>xb (F_0 (y13.1,(x.2.1.1,(y3.1,(x.2.1.2.1,()))))) (fun (y14:T1)=>some ((),(((x.1,()),((x.2.1,()),(y3,((y14.1,()),(y14.2,()))))),())))))) (jParts1 (xb (F_6 (x.1,())) (fun (y15:(Y7×Unit))=>jParts1 (xb (F_0 (y15.1,(x.2.1.1,(y3.1,(x.2.1.2.1,()))))) (fun (y16:T1)=>some ((),(((x.1,()),((x.2.1,()),(y3,((y16.1,()),(y16.2,()))))),())))) (xb (F_0 (y15.1,(x.2.1.1,(y3.1,(x.2.1.2.1,()))))) (fun (y17:T1)=>some ((),(((x.1,()),((x.2.1,()),(y3,((y17.1,()),(y17.2,()))))),())))))) (xb (F_6 (x.1,())) (fun (y18:(Y7×Unit))=>xb (F_0 (y18.1,(x.2.1.1,(y3.1,(x.2.1.2.1,()))))) (fun (y19:T1)=>some ((),(((x.1,()),((x.2.1,()),(y3,((y19.1,()),(y19.2,()))))),())))))))))) (fun (y20:(Unit×(((Y7×Unit)×((Y14×Unit)×T6))×Unit)))=>gd (inR (0:Int) (3:Nat)) (gd (inR (2:Int) (3:Nat)) (xb (F_0 (y20.2.1.2.2.2.1.1,(y20.2.1.2.1.1.1,(y20.2.1.2.2.2.2.1.1,y20.2.1.2.1.1.2.2)))) (fun (y21:T1)=>xb (gd (inR (0:Int) (3:Nat)) (gd (inR (1:Int) (3:Nat)) (gd (inR (2:Int) (3:Nat)) (gd (inI (y20.2.1.2.1.1.2.1+y20.2.1.2.1.1.2.2.1)) (jParts0 (xb (F_6 y20.2.1.1) (fun (y22:(Y7×Unit))=>jParts0 (xb (F_0 (y22.1,(y20.2.1.2.1.1.1,(y20.2.1.2.2.1.1,((y20.2.1.2.1.1.2.1+y20.2.1.2.1.1.2.2.1),()))))) (fun (y23:T1)=>jParts0 (some ((),(((y21.1,()),(y21.2,((y23.1,()),(y23.2,())))),()))) (some ((),(((y21.1,()),(y21.2,((y23.1,()),(y23.2,())))),()))))) (jParts0 (jParts0 (xb (F_0 (y22.1,(y20.2.1.2.1.1.1,(y20.2.1.2.2.1.1,((y20.2.1.2.1.1.2.1+y20.2.1.2.1.1.2.2.1),()))))) (fun (y24:T1)=>some ((),(((y21.1,()),(y21.2,((y24.1,()),(y24.2,())))),())))) (xb (F_0 (y22.1,(y20.2.1.2.1.1.1,(y20.2.1.2.2.1.1,((y20.2.1.2.1.1.2.1+y20.2.1.2.1.1.2.2.1),()))))) (fun (y25:T1)=>some ((),(((y21.1,()),(y21.2,((y25.1,()),(y25.2,())))),()))))) (jParts0 (xb (F_0 (y22.1,(y20.2.1.2.1.1.1,(y20.2.1.2.2.1.1,((y20.2.1.2.1.1.2.1+y20.2.1.2.1.1.2.2.1),()))))) (fun (y26:T1)=>some ((),(((y21.1,()),(y21.2,((y26.1,()),(y26.2,())))),())))) (xb (F_0 (y22.1,(y20.2.1.2.1.1.1,(y20.2.1.2.2.1.1,((y20.2.1.2.1.1.2.1+y20.2.1.2.1.1.2.2.1),()))))) (fun (y27:T1)=>some ((),(((y21.1,()),(y21.2,((y27.1,()),(y27.2,())))),())))))))) (jParts0 (jParts0 (xb (F_6 y20.2.1.1) (fun (y28:(Y7×Unit))=>jParts0 (xb (F_0 (y28.1,(y20.2.1.2.1.1.1,(y20.2.1.2.2.1.1,((y20.2.1.2.1.1.2.1+y20.2.1.2.1.1.2.2.1),()))))) (fun (y29:T1)=>some ((),(((y21.1,()),(y21.2,((y29.1,()),(y29.2,())))),())))) (xb (F_0 (y28.1,(y20.2.1.2.1.1.1,(y20.2.1.2.2.1.1,((y20.2.1.2.1.1.2.1+y20.2.1.2.1.1.2.2.1),()))))) (fun (y30:T1)=>some ((),(((y21.1,()),(y21.2,((y30.1,()),(y30.2,())))),())))))) (xb (F_6 y20.2.1.1) (fun (y31:(Y7×Unit))=>xb (F_0 (y31.1,(y20.2.1.2.1.1.1,(y20.2.1.2.2.1.1,((y20.2.1.2.1.1.2.1+y20.2.1.2.1.1.2.2.1),()))))) (fun (y32:T1)=>some ((),(((y21.1,()),(y21.2,((y32.1,()),(y32.2,())))),())))))) (jParts0 (xb (F_6 y20.2.1.1) (fun (y33:(Y7×Unit))=>jParts0 (xb (F_0 (y33.1,(y20.2.1.2.1.1.1,(y20.2.1.2.2.1.1,((y20.2.1.2.1.1.2.1+y20.2.1.2.1.1.2.2.1),()))))) (fun (y34:T1)=>some ((),(((y21.1,()),(y21.2,((y34.1,()),(y34.2,())))),())))) (xb (F_0 (y33.1,(y20.2.1.2.1.1.1,(y20.2.1.2.2.1.1,((y20.2.1.2.1.1.2.1+y20.2.1.2.1.1.2.2.1),()))))) (fun (y35:T1)=>some ((),(((y21.1,()),(y21.2,((y35.1,()),(y35.2,())))),())))))) (xb (F_6 y20.2.1.1) (fun (y36:(Y7×Unit))=>xb (F_0 (y36.1,(y20.2.1.2.1.1.1,(y20.2.1.2.2.1.1,((y20.2.1.2.1.1.2.1+y20.2.1.2.1.1.2.2.1),()))))) (fun (y37:T1)=>some ((),(((y21.1,()),(y21.2,((y37.1,()),(y37.2,())))),())))))))))))) (fun (y38:(Unit×Tm))=>xb (F_N y38.2.1.1) (fun (y39:(Y7×Unit))=>xb (F_N y38.2.1.2.2.1) (fun (y40:(Y7×Unit))=>xb (F_09 (y39.1,y40)) (fun (y41:(Bool×Unit))=>xbr (y41.1==true) (xb (F_p y38.2.1.2.1) (fun (y42:(Y5×Unit))=>xb (F_p y38.2.1.2.2.2.1) (fun (y43:(Y5×Unit))=>xb (F_h (y42.1,y43)) (fun (y44:(Bool×Unit))=>xbr (y44.1==true) (xb (fl ()) (fun (y45:(Bool×Unit))=>some y45)) (some (false,())))))) (some (false,())))))))))))))) (xb (fl ()) (fun (y46:(Bool×Unit))=>some y46)))) (xb (fl ()) (fun (y47:(Bool×Unit))=>some y47)))) (xb (fl ()) (fun (y48:(Bool×Unit))=>some y48)))) (xb (fl ()) (fun (y49:(Bool×Unit))=>some y49)))) (xb (fl ()) (fun (y50:(Bool×Unit))=>some y50)))
theorem law18_SnapParts_gen (fl:DenL []→Option (DenL [.bool])) (x:(Y7×(Y14×(Y5×Unit)))):xfun Tryz.prog EN { t_2 with sm:=repl 11 ⟨[],[.bool],fl⟩ t_2.sm } h_3 6 [z7,z14,z5] [.bool] x=W_0 fl x:=by kernel_rfl
theorem law18_SnapParts_once:onceK t_2.sm=true:=by kernel_rfl
theorem law18_SnapParts_0:lk t_2.sm 11=some ⟨[],[.bool],F_1⟩:=by kernel_rfl
theorem law18_SnapParts_tab:{ t_2 with sm:=repl 11 ⟨[],[.bool],F_1⟩ t_2.sm }=t_2:=
 with_sm (repl_tr (rfl:t_2.sm=t_2.sm) law18_SnapParts_once law18_SnapParts_0)
theorem R_01 (x:(Y7×(Y14×(Y5×Unit)))):F_S x=W_0 F_1 x:=by
 have h:=law18_SnapParts_gen F_1 x
 rw [law18_SnapParts_tab] at h
 unfold F_S
 exact h
end Go.Proofs.YtdbjakibneeeiaaGreatDoor.Ex
namespace Go.Proofs.YtdbjakibneeeiaaGreatDoor.Ex
open Go.RowKit Sx
theorem parts_core (v:P_1) (n0 n1 n2:Int) (s:P_2) (hv1:Fits v.1∧OkV (.row z4) v.2.2.2.2.2.1) (hs1:OkV (.row z4) s.2.2.2.1):F_S (v,(n0,n1,n2,()),s,())=some (true,()):=by
 refine Tells.of_eq (Q:=fun _=>True) (Tells.of (R_01 _) ?_)
 unfold W_0
 refine Tells.xb (small16 s (shs_of _ hs1).1) fun y hy=>?_
 refine Tells.br (fun h1=>?_) (fun _=>lived)
 have hS:=sgG_of s hs1 (hy (not_f (eq_of_beq h1)))
 refine Tells.xb (few18 v (shs_of _ hv1.2).1) fun y hy=>?_
 refine Tells.br (fun h1=>?_) (fun _=>lived)
 have hV:=tkG_of v hv1.1 hv1.2 (hy (not_f (eq_of_beq h1)))
 refine Tells.gd rfl (Tells.br (fun h1=>?_) (fun _=>lived))
 have a0:0≤n1:=Int.not_lt.1 (of_decide_eq_false (eq_of_beq h1))
 refine Tells.gd rfl (Tells.br (fun h1=>?_) (fun _=>lived))
 have a1:n1≤60:=Int.not_lt.1 (of_decide_eq_false (eq_of_beq h1))
 refine Tells.gd rfl (Tells.br (fun h1=>?_) (fun _=>lived))
 have b0:0≤n2:=Int.not_lt.1 (of_decide_eq_false (eq_of_beq h1))
 refine Tells.gd rfl (Tells.br (fun _=>lived) (fun h1=>?_))
 have b1:n2≤60:=Int.not_lt.1 (of_decide_eq_false h1)
 have eO:=own18_eq v (Nat.le_trans hV.2.1.1 (by decide))
 have e1:=snap_Run_eq (along_few n0 20 800 (by decide)) v s n1 (by rw [stepsN_eq a0 (by omega)];omega) ⟨Nat.zero_le _,hV,hS⟩
 have e3:=snap_Run_eq (along_few n0 20 800 (by decide)) v s (n1+n2) (by rw [stepsN_eq (by omega) (by omega)];omega) ⟨Nat.zero_le _,hV,hS⟩
 obtain ⟨j,hj,_,g1,g2⟩:=(along_few n0 20 800 (by decide)).run (stepsN n1) 0 v s (by rw [stepsN_eq a0 (by omega)];omega) ⟨Nat.zero_le _,hV,hS⟩
 have hj:j≤60:=by rw [stepsN_eq a0 (by omega)] at hj;omega
 have eA:runP (stepsN (n1+n2)) v n0 s=runP (stepsN n2) (runP (stepsN n1) v n0 s).1 n0 (runP (stepsN n1) v n0 s).2:=by
  rw [← run_add,stepsN_eq a0 (by omega),stepsN_eq b0 (by omega),stepsN_eq (by omega) (by omega)]
  congr 1
  omega
 rw [eA] at e3
 generalize runP (stepsN n1) v n0 s=r1 at *
 have e2:=snap_Run_eq (along_few n0 80 800 (by decide)) r1.1 r1.2 n2 (by rw [stepsN_eq b0 (by omega)];omega) ⟨Nat.zero_le _,g1.mono (by omega),g2⟩
 obtain ⟨k,hk,_,k1,k2⟩:=(along_few n0 80 800 (by decide)).run (stepsN n2) 0 r1.1 r1.2 (by rw [stepsN_eq b0 (by omega)];omega) ⟨Nat.zero_le _,g1.mono (by omega),g2⟩
 have hk:k≤60:=by rw [stepsN_eq b0 (by omega)] at hk;omega
 generalize runP (stepsN n2) r1.1 n0 r1.2=r2 at *
 have k1:=k1.mono (m:=900) (by omega)
 clear hj g1 hk eA hy
 refine Tells.xbe (ownSight_eq s (Nat.le_trans hS.2.1 (by decide))) ?_
 apply Tells.xbe
 ·refine gd_to rfl (gd_to rfl ?_)
  repeat' (first
   | refine xb_to eO ?_
   | refine xb_to e1 ?_
   | apply both_to
   | exact same_t rfl rfl rfl _
   | exact rfl)
 refine Tells.gd rfl (Tells.gd rfl (Tells.xbe e2 ?_))
 apply Tells.xbe
 ·refine gd_to rfl (gd_to rfl (gd_to rfl (gd_to (inI_of (by show _≤n1+n2;omega) (by show n1+n2≤_;omega)) ?_)))
  repeat' (first
   | refine xb_to eO ?_
   | refine xb_to e3 ?_
   | apply both_to
   | exact same_t rfl rfl rfl _
   | exact rfl)
 have eT:=told18_eq r2.1 (Nat.le_trans k1.2.1.1 (by decide))
 have eU:=toldSight_eq r2.2 (Nat.le_trans k2.2.1 (by decide))
 refine Tells.xbe eT (Tells.xbe eT (Tells.xbe (same18 r2.1 (k1.cl (by decide))) (Tells.br (fun _=>?_) (fun h=>absurd h (by decide)))))
 refine Tells.xbe eU (Tells.xbe eU (Tells.xbe (sameSight r2.2 k2.cl) (Tells.br (fun _=>lived) (fun h=>absurd h (by decide)))))
theorem snapParts_true (x:DenL [z7,z14,z5]) (h:OkL [z7,z14,z5] x):F_S x=some (true,()):=by
 obtain ⟨v,⟨n0,n1,n2,u⟩,s,u2⟩:=x
 obtain ⟨hv,hn,hs,_⟩:=h
 exact parts_core v n0 n1 n2 s ⟨hv.1,hv.2.2.2.2.2.1⟩ hs.2.2.2.1
end Go.Proofs.YtdbjakibneeeiaaGreatDoor.Ex
