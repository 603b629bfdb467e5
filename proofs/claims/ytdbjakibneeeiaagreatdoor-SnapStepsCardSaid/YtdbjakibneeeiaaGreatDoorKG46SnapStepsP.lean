/- The laws: what they come to, told by live as a variable. -/
import Derived.Test.YtdbjakibneeeiaaGreatDoorKG43ExRd
import Derived.Test.YtdbjakibneeeiaaGreatDoorKExRl
import Derived.Test.YtdbjakibneeeiaaGreatDoorKG45ExPo
set_option linter.all false
set_option maxHeartbeats 4000000
set_option maxRecDepth 100000
namespace Go.Proofs.YtdbjakibneeeiaaGreatDoor.Ex
open Go.RowKit Sx
abbrev fy:Option ((af [.int]×(bq [[z7],[z3],[z5],[z5],[z7],[z5]]×af [])))→Option ((af [.int]×(bq [[z7],[z3],[z5],[z5],[z7],[z5]]×af [])))→Option ((af [.int]×(bq [[z7],[z3],[z5],[z5],[z7],[z5]]×af []))):=@both ((af [.int]×(bq [[z7],[z3],[z5],[z5],[z7],[z5]]×af []))) inferInstance
abbrev fq:Option ((af [.int,.int]×(bq [[z7],[z3],[z5],[z5],[z7],[z5],[z7],[z5],[z7],[z5]]×af [])))→Option ((af [.int,.int]×(bq [[z7],[z3],[z5],[z5],[z7],[z5],[z7],[z5],[z7],[z5]]×af [])))→Option ((af [.int,.int]×(bq [[z7],[z3],[z5],[z5],[z7],[z5],[z7],[z5],[z7],[z5]]×af []))):=@both ((af [.int,.int]×(bq [[z7],[z3],[z5],[z5],[z7],[z5],[z7],[z5],[z7],[z5]]×af []))) inferInstance
noncomputable def RP (fl:af []→Option (af [.bool])) (x:(Y7×Tk)):Option (af [.bool]):=
 xb (Me x.2.2) (fun (y0:(Bool×Unit))=>az ((!y0.1)==false) (xb (Nc (x.1,())) (fun (y1:(Bool×Unit))=>az ((!y1.1)==false) (gd (di (1:Int) (2:Nat)) (az (decide (x.2.1.2.1>(60:Int))) (xb (fl ()) (fun (y2:(Bool×Unit))=>some y2)) (xb (F_4 x.2.2) (fun (y3:(Y5×Unit))=>xb (gd (di (0:Int) (2:Nat)) (fy (xb (F_6 (x.1,())) (fun (y4:(Y7×Unit))=>fy (xb (F_2 (y4.1,(x.2.1.1,y3))) (fun (y5:T8)=>fy (some (y5.2.2,(((x.1,()),((x.2.1,()),(x.2.2,(y3,((y5.1,()),((y5.2.1,()),())))))),()))) (some (y5.2.2,(((x.1,()),((x.2.1,()),(x.2.2,(y3,((y5.1,()),((y5.2.1,()),())))))),()))))) (fy (fy (xb (F_2 (y4.1,(x.2.1.1,y3))) (fun (y6:T8)=>some (y6.2.2,(((x.1,()),((x.2.1,()),(x.2.2,(y3,((y6.1,()),((y6.2.1,()),())))))),())))) (xb (F_2 (y4.1,(x.2.1.1,y3))) (fun (y7:T8)=>some (y7.2.2,(((x.1,()),((x.2.1,()),(x.2.2,(y3,((y7.1,()),((y7.2.1,()),())))))),()))))) (fy (xb (F_2 (y4.1,(x.2.1.1,y3))) (fun (y8:T8)=>some (y8.2.2,(((x.1,()),((x.2.1,()),(x.2.2,(y3,((y8.1,()),((y8.2.1,()),())))))),())))) (xb (F_2 (y4.1,(x.2.1.1,y3))) (fun (y9:T8)=>some (y9.2.2,(((x.1,()),((x.2.1,()),(x.2.2,(y3,((y9.1,()),((y9.2.1,()),())))))),())))))))) (fy (fy (xb (F_6 (x.1,())) (fun (y10:(Y7×Unit))=>fy (xb (F_2 (y10.1,(x.2.1.1,y3))) (fun (y11:T8)=>some (y11.2.2,(((x.1,()),((x.2.1,()),(x.2.2,(y3,((y11.1,()),((y11.2.1,()),())))))),())))) (xb (F_2 (y10.1,(x.2.1.1,y3))) (fun (y12:T8)=>some (y12.2.2,(((x.1,()),((x.2.1,()),(x.2.2,(y3,((y12.1,()),((y12.2.1,()),())))))),())))))) (xb (F_6 (x.1,())) (fun (y13:(Y7×Unit))=>xb (F_2 (y13.1,(x.2.1.1,y3))) (fun (y14:T8)=>some (y14.2.2,(((x.1,()),((x.2.1,()),(x.2.2,(y3,((y14.1,()),((y14.2.1,()),())))))),())))))) (fy (xb (F_6 (x.1,())) (fun (y15:(Y7×Unit))=>fy (xb (F_2 (y15.1,(x.2.1.1,y3))) (fun (y16:T8)=>some (y16.2.2,(((x.1,()),((x.2.1,()),(x.2.2,(y3,((y16.1,()),((y16.2.1,()),())))))),())))) (xb (F_2 (y15.1,(x.2.1.1,y3))) (fun (y17:T8)=>some (y17.2.2,(((x.1,()),((x.2.1,()),(x.2.2,(y3,((y17.1,()),((y17.2.1,()),())))))),())))))) (xb (F_6 (x.1,())) (fun (y18:(Y7×Unit))=>xb (F_2 (y18.1,(x.2.1.1,y3))) (fun (y19:T8)=>some (y19.2.2,(((x.1,()),((x.2.1,()),(x.2.2,(y3,((y19.1,()),((y19.2.1,()),())))))),()))))))))) (fun (y20:((Int×Unit)×(((Y7×Unit)×((Y3×Unit)×((Y5×Unit)×T6)))×Unit)))=>gd (di (0:Int) (2:Nat)) (xb (F_17 (y20.2.1.1.1,(y20.2.1.2.1.1.1,y20.2.1.2.2.1))) (fun (y21:T8)=>xb (gd (di (0:Int) (2:Nat)) (gd (di (1:Int) (2:Nat)) (fq (xb (F_6 y20.2.1.1) (fun (y22:(Y7×Unit))=>fq (xb (rK (y22.1,(y20.2.1.2.1.1.1,(y20.2.1.2.2.2.1.1,y20.2.1.2.1.1.2)))) (fun (y23:T1)=>fq (some ((y20.1.1,y21.2.2),((y20.2.1.1,(y20.2.1.2.1,(y20.2.1.2.2.1,(y20.2.1.2.2.2.1,(y20.2.1.2.2.2.2.1,(y20.2.1.2.2.2.2.2.1,((y21.1,()),((y21.2.1,()),((y23.1,()),(y23.2,())))))))))),()))) (some ((y20.1.1,y21.2.2),((y20.2.1.1,(y20.2.1.2.1,(y20.2.1.2.2.1,(y20.2.1.2.2.2.1,(y20.2.1.2.2.2.2.1,(y20.2.1.2.2.2.2.2.1,((y21.1,()),((y21.2.1,()),((y23.1,()),(y23.2,())))))))))),()))))) (fq (fq (xb (rK (y22.1,(y20.2.1.2.1.1.1,(y20.2.1.2.2.2.1.1,y20.2.1.2.1.1.2)))) (fun (y24:T1)=>some ((y20.1.1,y21.2.2),((y20.2.1.1,(y20.2.1.2.1,(y20.2.1.2.2.1,(y20.2.1.2.2.2.1,(y20.2.1.2.2.2.2.1,(y20.2.1.2.2.2.2.2.1,((y21.1,()),((y21.2.1,()),((y24.1,()),(y24.2,())))))))))),())))) (xb (rK (y22.1,(y20.2.1.2.1.1.1,(y20.2.1.2.2.2.1.1,y20.2.1.2.1.1.2)))) (fun (y25:T1)=>some ((y20.1.1,y21.2.2),((y20.2.1.1,(y20.2.1.2.1,(y20.2.1.2.2.1,(y20.2.1.2.2.2.1,(y20.2.1.2.2.2.2.1,(y20.2.1.2.2.2.2.2.1,((y21.1,()),((y21.2.1,()),((y25.1,()),(y25.2,())))))))))),()))))) (fq (xb (rK (y22.1,(y20.2.1.2.1.1.1,(y20.2.1.2.2.2.1.1,y20.2.1.2.1.1.2)))) (fun (y26:T1)=>some ((y20.1.1,y21.2.2),((y20.2.1.1,(y20.2.1.2.1,(y20.2.1.2.2.1,(y20.2.1.2.2.2.1,(y20.2.1.2.2.2.2.1,(y20.2.1.2.2.2.2.2.1,((y21.1,()),((y21.2.1,()),((y26.1,()),(y26.2,())))))))))),())))) (xb (rK (y22.1,(y20.2.1.2.1.1.1,(y20.2.1.2.2.2.1.1,y20.2.1.2.1.1.2)))) (fun (y27:T1)=>some ((y20.1.1,y21.2.2),((y20.2.1.1,(y20.2.1.2.1,(y20.2.1.2.2.1,(y20.2.1.2.2.2.1,(y20.2.1.2.2.2.2.1,(y20.2.1.2.2.2.2.2.1,((y21.1,()),((y21.2.1,()),((y27.1,()),(y27.2,())))))))))),())))))))) (fq (fq (xb (F_6 y20.2.1.1) (fun (y28:(Y7×Unit))=>fq (xb (rK (y28.1,(y20.2.1.2.1.1.1,(y20.2.1.2.2.2.1.1,y20.2.1.2.1.1.2)))) (fun (y29:T1)=>some ((y20.1.1,y21.2.2),((y20.2.1.1,(y20.2.1.2.1,(y20.2.1.2.2.1,(y20.2.1.2.2.2.1,(y20.2.1.2.2.2.2.1,(y20.2.1.2.2.2.2.2.1,((y21.1,()),((y21.2.1,()),((y29.1,()),(y29.2,())))))))))),())))) (xb (rK (y28.1,(y20.2.1.2.1.1.1,(y20.2.1.2.2.2.1.1,y20.2.1.2.1.1.2)))) (fun (y30:T1)=>some ((y20.1.1,y21.2.2),((y20.2.1.1,(y20.2.1.2.1,(y20.2.1.2.2.1,(y20.2.1.2.2.2.1,(y20.2.1.2.2.2.2.1,(y20.2.1.2.2.2.2.2.1,((y21.1,()),((y21.2.1,()),((y30.1,()),(y30.2,())))))))))),())))))) (xb (F_6 y20.2.1.1) (fun (y31:(Y7×Unit))=>xb (rK (y31.1,(y20.2.1.2.1.1.1,(y20.2.1.2.2.2.1.1,y20.2.1.2.1.1.2)))) (fun (y32:T1)=>some ((y20.1.1,y21.2.2),((y20.2.1.1,(y20.2.1.2.1,(y20.2.1.2.2.1,(y20.2.1.2.2.2.1,(y20.2.1.2.2.2.2.1,(y20.2.1.2.2.2.2.2.1,((y21.1,()),((y21.2.1,()),((y32.1,()),(y32.2,())))))))))),())))))) (fq (xb (F_6 y20.2.1.1) (fun (y33:(Y7×Unit))=>fq (xb (rK (y33.1,(y20.2.1.2.1.1.1,(y20.2.1.2.2.2.1.1,y20.2.1.2.1.1.2)))) (fun (y34:T1)=>some ((y20.1.1,y21.2.2),((y20.2.1.1,(y20.2.1.2.1,(y20.2.1.2.2.1,(y20.2.1.2.2.2.1,(y20.2.1.2.2.2.2.1,(y20.2.1.2.2.2.2.2.1,((y21.1,()),((y21.2.1,()),((y34.1,()),(y34.2,())))))))))),())))) (xb (rK (y33.1,(y20.2.1.2.1.1.1,(y20.2.1.2.2.2.1.1,y20.2.1.2.1.1.2)))) (fun (y35:T1)=>some ((y20.1.1,y21.2.2),((y20.2.1.1,(y20.2.1.2.1,(y20.2.1.2.2.1,(y20.2.1.2.2.2.1,(y20.2.1.2.2.2.2.1,(y20.2.1.2.2.2.2.2.1,((y21.1,()),((y21.2.1,()),((y35.1,()),(y35.2,())))))))))),())))))) (xb (F_6 y20.2.1.1) (fun (y36:(Y7×Unit))=>xb (rK (y36.1,(y20.2.1.2.1.1.1,(y20.2.1.2.2.2.1.1,y20.2.1.2.1.1.2)))) (fun (y37:T1)=>some ((y20.1.1,y21.2.2),((y20.2.1.1,(y20.2.1.2.1,(y20.2.1.2.2.1,(y20.2.1.2.2.2.1,(y20.2.1.2.2.2.2.1,(y20.2.1.2.2.2.2.2.1,((y21.1,()),((y21.2.1,()),((y37.1,()),(y37.2,())))))))))),())))))))))) (fun (y38:(Y3×(((Y7×Unit)×((Y3×Unit)×((Y5×Unit)×((Y5×Unit)×((Y7×Unit)×((Y5×Unit)×((Y7×Unit)×T6)))))))×Unit)))=>gd (di (0:Int) (2:Nat)) (gd (di (1:Int) (2:Nat)) (xb (E8 (y38.2.1.1.1,(y38.2.1.2.1.1.1,(y38.2.1.2.2.1.1,y38.2.1.2.1.1.2)))) (fun (y39:T1)=>xb (KW y38.2.1.2.2.2.2.1) (fun (y40:(Y7×Unit))=>xb (AW (y40.1,y38.2.1.2.2.2.2.2.2.1)) (fun (y41:(Bool×Unit))=>az ((!y41.1)==false) (xb (Mi y38.2.1.2.2.2.2.2.1) (fun (y42:(Y5×Unit))=>xb (MF (y42.1,y38.2.1.2.2.2.2.2.2.2.1)) (fun (y43:(Bool×Unit))=>az ((!y43.1)==false) (az ((y38.1.1 != y38.1.2.1)==false) (xb (KW y38.2.1.2.2.2.2.2.2.2.2.1) (fun (y44:(Y7×Unit))=>xb (AW (y44.1,(y39.1,()))) (fun (y45:(Bool×Unit))=>az ((!y45.1)==false) (xb (Mi y38.2.1.2.2.2.2.2.2.2.2.2.1) (fun (y46:(Y5×Unit))=>xb (MF (y46.1,y39.2)) (fun (y47:(Bool×Unit))=>az (!y47.1) (some (false,())) (gd (di (0:Int) (2:Nat)) (gd (di (0:Int) (2:Nat)) (xb (F_6 y38.2.1.1) (fun (y48:(Y7×Unit))=>xb (F_9 (y48.1,(y38.2.1.2.1.1.1,y38.2.1.2.2.2.1))) (fun (y49:(Bool×Unit))=>xb (F_10 (y38.2.1.1.1,(y38.2.1.2.1.1.1,y38.2.1.2.2.1))) (fun (y50:(Bool×Unit))=>az ((y49.1==y50.1)==true) (gd (di (1:Int) (2:Nat)) (gd (di (1:Int) (2:Nat)) (xb (F_3 y38.2.1.2.1.1.2) (fun (y51:(Y7×Unit))=>xb (KW y51) (fun (y52:(Y7×Unit))=>xb (F_19 y38.2.1.2.1.1.2) (fun (y53:(Y7×Unit))=>xb (AW (y52.1,y53)) (fun (y54:(Bool×Unit))=>az (y54.1==true) (xb (fl ()) (fun (y55:(Bool×Unit))=>some y55)) (some (false,()))))))))) (some (false,()))))))))))) (some (false,()))))) (some (false,()))) (some (false,()))))) (some (false,()))))))))))))))) (xb (fl ()) (fun (y56:(Bool×Unit))=>some y56)))) (xb (fl ()) (fun (y57:(Bool×Unit))=>some y57)))
def mK (fl:af []→Option (af [.bool])) (x:(Y7×Tk)):og Tryz.prog EN { rj with sm:=iH 11 ⟨[],[.bool],fl⟩ rj.sm } LI 3 [z7,z3,z5] [.bool] x=RP fl x:=by kernel_rfl
def lQ:vn rj.sm=true:=by kernel_rfl
def o6:lk rj.sm 11=some ⟨[],[.bool],F_1⟩:=by kernel_rfl
def mM:{ rj with sm:=iH 11 ⟨[],[.bool],F_1⟩ rj.sm }=rj:=
 BR (iV (rfl:rj.sm=rj.sm) lQ o6)
def Rm (x:(Y7×Tk)):F_18 x=RP F_1 x:=by
 have h:=mK F_1 x
 rw [mM] at h
 unfold F_18
 exact h
end Go.Proofs.YtdbjakibneeeiaaGreatDoor.Ex
namespace Go.Proofs.YtdbjakibneeeiaaGreatDoor.Ex
open Go.RowKit Sx
def P4 (g:Int):Iw (EM g):=⟨Nat.zero_le _,⟨Nat.zero_le _,fun c hc=>(by cases hc)⟩,Nat.zero_le _⟩
def Al (v:cU) (n0 n1:Int) (s:P_2) (hv1:Fits v.1∧FA (.row z4) v.2.2.2.2.2.1) (hs1:FA (.row z4) s.2.2.2.1):F_18 (v,(n0,n1,()),s,())=some (true,()):=by
 refine aa.of_eq (Q:=fun _=>True) (aa.of (Rm _) ?_)
 unfold RP
 refine aa.xb (Cc s (wE _ hs1).1) fun y hy=>?_
 refine aa.br (fun h1=>?_) (fun _=>Cw)
 have hS:=M6 s hs1 (hy (zT (eq_of_beq h1)))
 refine aa.xb (OV v (wE _ hv1.2).1) fun y hy=>?_
 refine aa.br (fun h1=>?_) (fun _=>Cw)
 have hV:=Kc v hv1.1 hv1.2 (hy (zT (eq_of_beq h1)))
 refine aa.gd rfl (aa.br (fun _=>Cw) (fun h1=>?_))
 have b1:n1≤60:=Int.not_lt.1 (of_decide_eq_false h1)
 have hst:cZ n1≤60:=by unfold cZ;split <;> omega
 have eO:=Fk v (Nat.le_trans hV.2.1.1 (by decide))
 obtain ⟨en,g1,g2,_⟩:=BP v n0 s (n:=20) (by decide) hV hS
 have enD:=Fv v n0 s (n:=20) (by decide) hV hS
 have e1:=zS (pT n0 20 800 (by decide)) v s n1 (by omega) ⟨Nat.zero_le _,hV,hS⟩
 have eD:=OG (pT n0 20 800 (by decide)) v s n1 (by omega) ⟨Nat.zero_le _,hV,hS⟩
 obtain ⟨j,hj,_,k1,k2⟩:=(pT n0 20 800 (by decide)).run (cZ n1) 0 v s (by omega) ⟨Nat.zero_le _,hV,hS⟩
 have k1:=k1.mono (m:=900) (by omega)
 obtain ⟨ea,_⟩:=kz v n0 s hS.cl
 have eb:=qw v n0 s hS.cl
 generalize iY v n0 s=r at *
 generalize gF (cZ n1) v n0 s=q at *
 generalize de v n0 s=b at *
 clear hy hj hst
 refine aa.gj (zi s (Nat.le_trans hS.2.1 (by decide))) ?_
 apply aa.gj
 ·refine mQ rfl ?_
  repeat' (first
   | refine dD eO ?_
   | refine dD en ?_
   | apply xh
   | exact wU rfl rfl rfl _
   | exact rfl)
 refine aa.gd rfl (aa.gj enD ?_)
 apply aa.gj
 ·refine mQ rfl (mQ rfl ?_)
  repeat' (first
   | refine dD eO ?_
   | refine dD e1 ?_
   | apply xh
   | exact wU rfl rfl rfl _
   | exact rfl)
 refine aa.gd rfl (aa.gd rfl (aa.gj eD ?_))
 refine aa.gj (pY r.1 (Nat.le_trans g1.2.1.1 (by decide))) (aa.gj (An r.1 (g1.cl (by decide))) (aa.br (fun _=>?_) (fun h=>absurd h (by decide))))
 refine aa.gj (oP r.2.1 (Nat.le_trans g2.2.1 (by decide))) (aa.gj (vI r.2.1 g2.cl) (aa.br (fun _=>?_) (fun h=>absurd h (by decide))))
 refine aa.br (fun _=>?_) (fun h=>absurd (ri.2 (rfl:r.2.2.1=r.2.2.1)) (by rw [h];simp))
 refine aa.gj (pY q.1 (Nat.le_trans k1.2.1.1 (by decide))) (aa.gj (An q.1 (k1.cl (by decide))) (aa.br (fun _=>?_) (fun h=>absurd h (by decide))))
 refine aa.gj (oP q.2 (Nat.le_trans k2.2.1 (by decide))) (aa.gj (vI q.2 k2.cl) (aa.br (fun h=>absurd h (by decide)) (fun _=>?_)))
 refine aa.gd rfl (aa.gd rfl (aa.gj eO (aa.gj ea (aa.gj eb (aa.br (fun _=>?_) (fun h=>absurd h (by show ¬ ((b==b)==true)=false;cases b <;> decide)))))))
 refine aa.gd rfl (aa.gd rfl ?_)
 have e0:F_3 (n1,())=some (EM n1,()):=M8 n1
 have e5:F_19 (n1,())=some (EM n1,()):=TZ (n1,())
 refine aa.gj e0 (aa.gj (pY (EM n1) (Nat.zero_le _)) (aa.gj e5 (aa.gj (An (EM n1) (P4 n1)) (aa.br (fun _=>Cw) (fun h=>absurd h (by decide))))))
def s7 (x:af [z7,z3,z5]) (h:Jo [z7,z3,z5] x):F_18 x=some (true,()):=by
 obtain ⟨v,⟨n0,n1,u⟩,s,u2⟩:=x
 obtain ⟨hv,hn,hs,_⟩:=h
 exact Al v n0 n1 s ⟨hv.1,hv.2.2.2.2.2.1⟩ hs.2.2.2.1
end Go.Proofs.YtdbjakibneeeiaaGreatDoor.Ex
