/- The laws: what they come to, told by live as a variable. -/
import Derived.Test.YtdbjakibneeeiaaGreatDoorKG40ExPi
import Derived.Test.YtdbjakibneeeiaaGreatDoorKExRl
import Derived.Test.YtdbjakibneeeiaaGreatDoorKExPm
set_option linter.all false
set_option maxHeartbeats 4000000
set_option maxRecDepth 100000
namespace Go.Proofs.YtdbjakibneeeiaaGreatDoor.Ex
open Go.RowKit Sx
abbrev jKeeps0:Option ((DenL [.int]×(DenLL [[z5],[z7],[z5]]×DenL [])))→Option ((DenL [.int]×(DenLL [[z5],[z7],[z5]]×DenL [])))→Option ((DenL [.int]×(DenLL [[z5],[z7],[z5]]×DenL []))):=@both ((DenL [.int]×(DenLL [[z5],[z7],[z5]]×DenL []))) inferInstance
noncomputable def W_1 (fl:DenL []→Option (DenL [.bool])) (x:(Int×Tk)):Option (DenL [.bool]):=
 gd (inR (0:Int) (2:Nat)) (xb (F_e x.2.2) (fun (y0:(Bool×Unit))=>xbr ((!y0.1)==false) (xb (F_M x.2.2) (fun (y1:(Bool×Unit))=>xbr ((!y1.1)==false) (xbr ((decide (x.2.1.1<(1:Int)))==false) (gd (inR (1:Int) (2:Nat)) (xbr ((decide (x.2.1.2.1<(0:Int)))==false) (gd (inR (1:Int) (2:Nat)) (xbr (decide (x.2.1.2.1>(60:Int))) (xb (fl ()) (fun (y2:(Bool×Unit))=>some y2)) (xb (xloop (S:=(Y14×Tn)) (R:=(T0 ⊕ ((Y3×Tn) ⊕ Empty))) (fun (s3:(Y14×Tn))=>xbr (decide (s3.1.2.2.1<(((List.length s3.2.1.2.1.1.2.1):Nat):Int))) (gd (inR s3.1.2.2.1 (List.length s3.2.1.2.1.1.2.1)) (gd (decide ((Int.toNat s3.1.2.2.1)<(List.length s3.2.1.2.1.1.2.1))) (xbr ((List.getD s3.2.1.2.1.1.2.1 (Int.toNat s3.1.2.2.1) (0:Int))==s3.1.2.1) (xb (fl ()) (fun (y4:(Bool×Unit))=>some (.inr (.inl (y4,((),())))))) (gd (inI (s3.1.2.2.1+(1:Int))) (some (.inl ((s3.1.1,(s3.1.2.1,((s3.1.2.2.1+(1:Int)),()))),s3.2))))))) (some (.inr (.inr (.inl ((s3.1.1,(s3.1.2.1,())),s3.2)))))) xmany ((x.1,(x.2.1.1,((0:Int),()))),(((x.2.1,()),(x.2.2,())),()))) (fun (y5:(T0 ⊕ ((Y3×Tn) ⊕ Empty)))=>xs y5 (fun (y6:T0)=>some y6.1) (fun (y7:((Y3×Tn) ⊕ Empty))=>xs y7 (fun (y8:(Y3×Tn))=>xb (gd (inR (1:Int) (2:Nat)) (jKeeps0 (xb (F_3 (y8.1.1,())) (fun (y9:(Y7×Unit))=>jKeeps0 (xb (F_4 y8.2.1.2.1) (fun (y10:(Y5×Unit))=>jKeeps0 (xb (F_0 (y9.1,(y8.1.2.1,(y10.1,y8.2.1.1.1.2)))) (fun (y11:T1)=>jKeeps0 (some (y8.1.2,((y8.2.1.2.1,((y11.1,()),(y11.2,()))),()))) (some (y8.1.2,((y8.2.1.2.1,((y11.1,()),(y11.2,()))),()))))) (jKeeps0 (jKeeps0 (xb (F_0 (y9.1,(y8.1.2.1,(y10.1,y8.2.1.1.1.2)))) (fun (y12:T1)=>some (y8.1.2,((y8.2.1.2.1,((y12.1,()),(y12.2,()))),())))) (xb (F_0 (y9.1,(y8.1.2.1,(y10.1,y8.2.1.1.1.2)))) (fun (y13:T1)=>some (y8.1.2,((y8.2.1.2.1,((y13.1,()),(y13.2,()))),()))))) (jKeeps0 (xb (F_0 (y9.1,(y8.1.2.1,(y10.1,y8.2.1.1.1.2)))) (fun (y14:T1)=>some (y8.1.2,((y8.2.1.2.1,((y14.1,()),(y14.2,()))),())))) (xb (F_0 (y9.1,(y8.1.2.1,(y10.1,y8.2.1.1.1.2)))) (fun (y15:T1)=>some (y8.1.2,((y8.2.1.2.1,((y15.1,()),(y15.2,()))),())))))))) (jKeeps0 (jKeeps0 (xb (F_4 y8.2.1.2.1) (fun (y16:(Y5×Unit))=>jKeeps0 (xb (F_0 (y9.1,(y8.1.2.1,(y16.1,y8.2.1.1.1.2)))) (fun (y17:T1)=>some (y8.1.2,((y8.2.1.2.1,((y17.1,()),(y17.2,()))),())))) (xb (F_0 (y9.1,(y8.1.2.1,(y16.1,y8.2.1.1.1.2)))) (fun (y18:T1)=>some (y8.1.2,((y8.2.1.2.1,((y18.1,()),(y18.2,()))),())))))) (xb (F_4 y8.2.1.2.1) (fun (y19:(Y5×Unit))=>xb (F_0 (y9.1,(y8.1.2.1,(y19.1,y8.2.1.1.1.2)))) (fun (y20:T1)=>some (y8.1.2,((y8.2.1.2.1,((y20.1,()),(y20.2,()))),())))))) (jKeeps0 (xb (F_4 y8.2.1.2.1) (fun (y21:(Y5×Unit))=>jKeeps0 (xb (F_0 (y9.1,(y8.1.2.1,(y21.1,y8.2.1.1.1.2)))) (fun (y22:T1)=>some (y8.1.2,((y8.2.1.2.1,((y22.1,()),(y22.2,()))),())))) (xb (F_0 (y9.1,(y8.1.2.1,(y21.1,y8.2.1.1.1.2)))) (fun (y23:T1)=>some (y8.1.2,((y8.2.1.2.1,((y23.1,()),(y23.2,()))),())))))) (xb (F_4 y8.2.1.2.1) (fun (y24:(Y5×Unit))=>xb (F_0 (y9.1,(y8.1.2.1,(y24.1,y8.2.1.1.1.2)))) (fun (y25:T1)=>some (y8.1.2,((y8.2.1.2.1,((y25.1,()),(y25.2,()))),()))))))))) (jKeeps0 (jKeeps0 (xb (F_3 (y8.1.1,())) (fun (y26:(Y7×Unit))=>jKeeps0 (xb (F_4 y8.2.1.2.1) (fun (y27:(Y5×Unit))=>jKeeps0 (xb (F_0 (y26.1,(y8.1.2.1,(y27.1,y8.2.1.1.1.2)))) (fun (y28:T1)=>some (y8.1.2,((y8.2.1.2.1,((y28.1,()),(y28.2,()))),())))) (xb (F_0 (y26.1,(y8.1.2.1,(y27.1,y8.2.1.1.1.2)))) (fun (y29:T1)=>some (y8.1.2,((y8.2.1.2.1,((y29.1,()),(y29.2,()))),())))))) (xb (F_4 y8.2.1.2.1) (fun (y30:(Y5×Unit))=>xb (F_0 (y26.1,(y8.1.2.1,(y30.1,y8.2.1.1.1.2)))) (fun (y31:T1)=>some (y8.1.2,((y8.2.1.2.1,((y31.1,()),(y31.2,()))),()))))))) (xb (F_3 (y8.1.1,())) (fun (y32:(Y7×Unit))=>xb (F_4 y8.2.1.2.1) (fun (y33:(Y5×Unit))=>xb (F_0 (y32.1,(y8.1.2.1,(y33.1,y8.2.1.1.1.2)))) (fun (y34:T1)=>some (y8.1.2,((y8.2.1.2.1,((y34.1,()),(y34.2,()))),()))))))) (jKeeps0 (xb (F_3 (y8.1.1,())) (fun (y35:(Y7×Unit))=>jKeeps0 (xb (F_4 y8.2.1.2.1) (fun (y36:(Y5×Unit))=>jKeeps0 (xb (F_0 (y35.1,(y8.1.2.1,(y36.1,y8.2.1.1.1.2)))) (fun (y37:T1)=>some (y8.1.2,((y8.2.1.2.1,((y37.1,()),(y37.2,()))),())))) (xb (F_0 (y35.1,(y8.1.2.1,(y36.1,y8.2.1.1.1.2)))) (fun (y38:T1)=>some (y8.1.2,((y8.2.1.2.1,((y38.1,()),(y38.2,()))),())))))) (xb (F_4 y8.2.1.2.1) (fun (y39:(Y5×Unit))=>xb (F_0 (y35.1,(y8.1.2.1,(y39.1,y8.2.1.1.1.2)))) (fun (y40:T1)=>some (y8.1.2,((y8.2.1.2.1,((y40.1,()),(y40.2,()))),()))))))) (xb (F_3 (y8.1.1,())) (fun (y41:(Y7×Unit))=>xb (F_4 y8.2.1.2.1) (fun (y42:(Y5×Unit))=>xb (F_0 (y41.1,(y8.1.2.1,(y42.1,y8.2.1.1.1.2)))) (fun (y43:T1)=>some (y8.1.2,((y8.2.1.2.1,((y43.1,()),(y43.2,()))),())))))))))) (fun (y44:((Int×Unit)×(T6×Unit)))=>xb (F_p y44.2.1.2.2.1) (fun (y45:(Y5×Unit))=>xbr (((((List.length y45.1.2.1):Nat):Int) != (((List.length y44.2.1.1.1.2.1):Nat):Int))==false) (xbr ((decide (y44.2.1.2.1.1.2.2.2.1<(0:Int)))==false) (xbr (decide (y44.2.1.2.1.1.2.2.2.1>(2:Int))) (some (false,())) (xb (xloop (S:=(Y3×(T6×Unit))) (R:=(T0 ⊕ ((Unit×Tl) ⊕ Empty))) (fun (s46:(Y3×(T6×Unit)))=>xbr (decide (s46.1.2.1<(((List.length s46.2.1.1.1.2.1):Nat):Int))) (gd (inR s46.1.2.1 (List.length s46.2.1.1.1.2.1)) (gd (decide ((Int.toNat s46.1.2.1)<(List.length s46.2.1.1.1.2.1))) (xbr (((List.getD s46.2.1.1.1.2.1 (Int.toNat s46.1.2.1) (0:Int))==(0:Int))==true) (gd (inR s46.1.2.1 (List.length s46.2.1.2.2.1.1.2.1)) (gd (decide ((Int.toNat s46.1.2.1)<(List.length s46.2.1.2.2.1.1.2.1))) (gd (inR s46.1.2.1 (List.length s46.2.1.2.2.1.1.2.1)) (gd (decide ((Int.toNat s46.1.2.1)<(List.length s46.2.1.2.2.1.1.2.1))) (gd (inR s46.1.2.1 (List.length s46.2.1.1.1.2.1)) (gd (decide ((Int.toNat s46.1.2.1)<(List.length s46.2.1.1.1.2.1))) (xbr (((List.getD s46.2.1.2.2.1.1.2.1 (Int.toNat s46.1.2.1) (0:Int)) != (List.getD s46.2.1.1.1.2.1 (Int.toNat s46.1.2.1) (0:Int)))==true) (xbr ((!((List.getD s46.2.1.2.2.1.1.2.1 (Int.toNat s46.1.2.1) (0:Int))==s46.1.1))==false) (xbr (((List.getD s46.2.1.2.2.1.1.2.1 (Int.toNat s46.1.2.1) (0:Int))==s46.1.1)==true) (xbr ((decide (s46.2.1.2.1.1.2.1<(3:Int)))==false) (xbr (decide (s46.2.1.2.1.1.2.1>(5:Int))) (some (.inr (.inl ((false,()),((),()))))) (gd (inI (s46.1.2.1+(1:Int))) (some (.inl ((s46.1.1,((s46.1.2.1+(1:Int)),())),s46.2))))) (some (.inr (.inl ((false,()),((),())))))) (gd (inI (s46.1.2.1+(1:Int))) (some (.inl ((s46.1.1,((s46.1.2.1+(1:Int)),())),s46.2))))) (some (.inr (.inl ((false,()),((),())))))) (xbr (((List.getD s46.2.1.2.2.1.1.2.1 (Int.toNat s46.1.2.1) (0:Int))==s46.1.1)==true) (xbr ((decide (s46.2.1.2.1.1.2.1<(3:Int)))==false) (xbr (decide (s46.2.1.2.1.1.2.1>(5:Int))) (some (.inr (.inl ((false,()),((),()))))) (gd (inI (s46.1.2.1+(1:Int))) (some (.inl ((s46.1.1,((s46.1.2.1+(1:Int)),())),s46.2))))) (some (.inr (.inl ((false,()),((),())))))) (gd (inI (s46.1.2.1+(1:Int))) (some (.inl ((s46.1.1,((s46.1.2.1+(1:Int)),())),s46.2)))))))))))) (gd (inR s46.1.2.1 (List.length s46.2.1.2.2.1.1.2.1)) (gd (decide ((Int.toNat s46.1.2.1)<(List.length s46.2.1.2.2.1.1.2.1))) (gd (inR s46.1.2.1 (List.length s46.2.1.1.1.2.1)) (gd (decide ((Int.toNat s46.1.2.1)<(List.length s46.2.1.1.1.2.1))) (xbr (((List.getD s46.2.1.2.2.1.1.2.1 (Int.toNat s46.1.2.1) (0:Int)) != (List.getD s46.2.1.1.1.2.1 (Int.toNat s46.1.2.1) (0:Int)))==true) (some (.inr (.inl ((false,()),((),()))))) (gd (inI (s46.1.2.1+(1:Int))) (some (.inl ((s46.1.1,((s46.1.2.1+(1:Int)),())),s46.2)))))))))))) (some (.inr (.inr (.inl ((),((s46.2.1.1,s46.2.1.2.2),()))))))) xmany ((y44.1.1,((0:Int),())),((y44.2.1.1,(y44.2.1.2.1,(y45,()))),()))) (fun (y47:(T0 ⊕ ((Unit×Tl) ⊕ Empty)))=>xs y47 (fun (y48:T0)=>some y48.1) (fun (y49:((Unit×Tl) ⊕ Empty))=>xs y49 (fun (y50:(Unit×Tl))=>xb (F_h ((y50.2.1.2.1.1.1,(y50.2.1.1.1.2.1,y50.2.1.2.1.1.2.2)),y50.2.1.1)) (fun (y51:(Bool×Unit))=>xbr (y51.1==true) (xb (fl ()) (fun (y52:(Bool×Unit))=>some y52)) (some (false,())))) (fun (y53:Empty)=>xe y53))))) (some (false,()))) (some (false,()))))) (fun (y54:Empty)=>xe y54)))))) (xb (fl ()) (fun (y55:(Bool×Unit))=>some y55)))) (xb (fl ()) (fun (y56:(Bool×Unit))=>some y56))) (xb (fl ()) (fun (y57:(Bool×Unit))=>some y57)))) (xb (fl ()) (fun (y58:(Bool×Unit))=>some y58))))
theorem law18_SnapKeeps_gen (fl:DenL []→Option (DenL [.bool])) (x:(Int×Tk)):xfun Tryz.prog EN { t_1 with sm:=repl 11 ⟨[],[.bool],fl⟩ t_1.sm } h_2 5 [.int,z3,z5] [.bool] x=W_1 fl x:=by kernel_rfl
theorem law18_SnapKeeps_once:onceK t_1.sm=true:=by kernel_rfl
theorem law18_SnapKeeps_0:lk t_1.sm 11=some ⟨[],[.bool],F_1⟩:=by kernel_rfl
theorem law18_SnapKeeps_tab:{ t_1 with sm:=repl 11 ⟨[],[.bool],F_1⟩ t_1.sm }=t_1:=
 with_sm (repl_tr (rfl:t_1.sm=t_1.sm) law18_SnapKeeps_once law18_SnapKeeps_0)
theorem R_02 (x:(Int×Tk)):F_R x=W_1 F_1 x:=by
 have h:=law18_SnapKeeps_gen F_1 x
 rw [law18_SnapKeeps_tab] at h
 unfold F_R
 exact h
end Go.Proofs.YtdbjakibneeeiaaGreatDoor.Ex
namespace Go.Proofs.YtdbjakibneeeiaaGreatDoor.Ex
open Go.RowKit Sx
theorem along_keeps (w:Int) (s0:P_2) (m:Nat) (hm:m≤800):Along w m fun k v s=>k≤m∧TkG k v∧SgG s∧KJ s0.2.1 w v s∧s.1=s0.1∧s.2.2=s0.2.2 where
 good:=fun ⟨h0,h1,h2,_⟩=>⟨h1.mono (by omega),h2⟩
 step:=fun {k v s} hk ⟨_,h1,h2,h3,h4,h5⟩ hb hm hw hp=>by
  obtain ⟨e,_⟩:=able_eq v w s h2.cl
  obtain ⟨_,g1,g2,_,g4,g5⟩:=step_eq v w s (n:=k) (by omega) h1 h2 (e.trans (by rw [hb])) hm hw hp
  exact ⟨hk,g1,g2,h3.step hm hp,g4.trans h4,g5.trans h5⟩
theorem KJ.at_ {L0:List Int} {w:Int} {v:P_1} {s:P_2} (h:KJ L0 w v s) (hw:1≤w) {i:Nat} (hi:i<L0.length) :
  (List.getD s.2.1 i (0:Int)≠L0.getD i 0→L0.getD i 0=0∧List.getD s.2.1 i (0:Int)=w)∧(L0.getD i 0=0→List.getD s.2.1 i (0:Int)=w→3≤v.2.1∧v.2.1≤5):=by
 obtain ⟨_,_,_,h⟩:=h
 have same:s.2.1=L0→(List.getD s.2.1 i (0:Int)≠L0.getD i 0→L0.getD i 0=0∧List.getD s.2.1 i (0:Int)=w)∧(L0.getD i 0=0→List.getD s.2.1 i (0:Int)=w→3≤v.2.1∧v.2.1≤5):=fun e=>by
  rw [e];exact ⟨fun c=>absurd rfl c,fun a b=>by omega⟩
 rcases h with ⟨_,_,_,e⟩ | ⟨p,_,h6⟩ | ⟨p,h6⟩ | ⟨p,_,h6⟩ | ⟨_,e⟩
 ·exact same e
 ·obtain ⟨a,b⟩:=h6 i hi
  refine ⟨fun c=>?_,fun _ _=>by omega⟩
  by_cases d:(i:Int)<v.2.2.1
  ·exact a d
  ·exact absurd (b (by omega)) c
 ·exact ⟨fun _=>h6 i hi,fun _ _=>by omega⟩
 ·obtain ⟨z,a,b⟩:=h6 i hi
  refine ⟨fun c=>?_,fun _ _=>by omega⟩
  by_cases d:(i:Int)<v.2.2.1
  ·exact absurd ((a d).trans z.symm) c
  ·exact ⟨z,b (by omega)⟩
 ·exact same e
theorem keeps_core (g w n1:Int) (s:P_2) (hg:Fits g) (hs1:OkV (.row z4) s.2.2.2.1):F_R (g,(w,n1,()),s,())=some (true,()):=by
 refine Tells.of_eq (Q:=fun _=>True) (Tells.of (R_02 _) ?_)
 unfold W_1
 refine Tells.gd rfl (Tells.xb (small16 s (shs_of _ hs1).1) fun y hy=>?_)
 refine Tells.br (fun h1=>?_) (fun _=>lived)
 have hS:=sgG_of s hs1 (hy (not_f (eq_of_beq h1)))
 clear hy
 refine Tells.xb (may_D s hS.cl) fun y _=>?_
 refine Tells.br (fun _=>?_) (fun _=>lived)
 refine Tells.br (fun h1=>?_) (fun _=>lived)
 have w1:1≤w:=c_lt.1 h1
 refine Tells.gd rfl (Tells.br (fun h1=>?_) (fun _=>lived))
 have a0:0≤n1:=c_lt.1 h1
 refine Tells.gd rfl (Tells.br (fun _=>lived) (fun h1=>?_))
 have a1:n1≤60:=Int.not_lt.1 (of_decide_eq_false h1)
 have hL:List.length s.2.1≤9223372036854775807:=Nat.le_trans hS.1 (by decide)
 refine Tells.xb (Tells.idx (Q:=fun r:((Bool×Unit)×(Unit×Unit)) ⊕ (((Int×Int×Unit)×((((Int×Int×Unit)×Unit)×(P_2×Unit)×Unit)×Unit)) ⊕ Empty)=>match r with | .inl y=>y.1.1=true | .inr (.inl y)=>y=((g,w,()),(((w,n1,()),()),(s,()),()),()) | .inr (.inr _)=>False) (fun i=>((g,w,(i:Int),()),(((w,n1,()),()),(s,()),()),())) (fun _=>True) (List.length s.2.1) hL trivial (fun i hi _=>?_) (fun _=>?_) rfl) (fun y hy=>?_)
 ·refine Tells.br (fun _=>?_) (fun h=>absurd (ltN_of hi) (by rw [h];simp))
  refine Tells.gd (inR_of hi) (Tells.gd (ltT_of hi) ?_)
  refine Tells.br (fun _=>Tells.xbe live18 ⟨_,rfl,rfl⟩) (fun _=>Tells.gd (inI_nat hi hL) ⟨_,rfl,rfl,trivial⟩)
 ·exact Tells.br (fun h=>absurd ltN_no (by rw [h];simp)) (fun _=>⟨_,rfl,rfl⟩)
 match y,hy with
 | .inl ((b,u),u2),h=>exact ⟨_,rfl,by show (b,u)=_;rw [show b=true from h]⟩
 | .inr (.inl y),h=>
  have h:y=((g,w,()),(((w,n1,()),()),(s,()),()),()):=h
  subst h
  have hK0:KJ s.2.1 w (newP g) s:=⟨rfl,Int.le_refl _,(show (0:Int)≤2 by decide),.inl ⟨Int.le_refl _,(show (0:Int)≤2 by decide),(show (0:Int)≤1 by decide),rfl⟩⟩
  have hst:stepsN n1≤60:=by rw [stepsN_eq a0 (by omega)];omega
  have e1:=snap_Run_eq (along_keeps w s 60 (by decide)) (newP g) s n1 hst ⟨Nat.zero_le _,newG g hg,hS,hK0,rfl,rfl⟩
  obtain ⟨j,hj,_,k1,k2,kJ,k3,k4⟩:=(along_keeps w s 60 (by decide)).run (stepsN n1) 0 (newP g) s (by omega) ⟨Nat.zero_le _,newG g hg,hS,hK0,rfl,rfl⟩
  generalize runP (stepsN n1) (newP g) w s=r at *
  have eO:=ownSight_eq s (Nat.le_trans hS.2.1 (by decide))
  have eN:F_3 (g,())=some (newP g,()):=new_eq g
  apply Tells.xbe
  ·refine gd_to rfl ?_
   repeat' (first
    | refine xb_to eN ?_
    | refine xb_to eO ?_
    | refine xb_to e1 ?_
    | apply both_to
    | exact same_t rfl rfl rfl _
    | exact rfl)
  refine Tells.xbe (toldSight_eq r.2 (Nat.le_trans k2.2.1 (by decide))) ?_
  have hlen:=kJ.1
  refine Tells.br (fun _=>?_) (fun h=>absurd (c_ne.2 (show (List.length r.2.2.1:Int)=(List.length s.2.1:Int) by rw [hlen])) (by rw [h];simp))
  refine Tells.br (fun _=>?_) (fun h=>absurd (c_lt.2 kJ.2.1) (by rw [h];simp))
  refine Tells.br (fun h=>absurd (of_decide_eq_true h) (by have:=kJ.2.2.1;show ¬ r.1.2.2.2.1>2;omega)) (fun _=>?_)
  refine Tells.xb (Tells.idx (Q:=fun q:((Bool×Unit)×(Unit×Unit)) ⊕ ((Unit×(((P_2×Unit)×(P_2×Unit)×Unit)×Unit)) ⊕ Empty)=>match q with | .inl y=>False | .inr (.inl y)=>y=((),((s,()),(r.2,()),()),()) | .inr (.inr _)=>False) (fun i=>((w,(i:Int),()),((s,()),(r.1,()),(r.2,()),()),())) (fun _=>True) (List.length s.2.1) hL trivial (fun i hi _=>?_) (fun _=>?_) rfl) (fun y hy=>?_)
  ·have hi2:i<List.length r.2.2.1:=by rw [hlen];exact hi
   obtain ⟨q1,q2⟩:=kJ.at_ w1 hi
   have ea:(s.2.1:List Int).getD (Int.toNat (i:Int)) 0=List.getD s.2.1 i 0:=by rw [Int.toNat_natCast]
   have eb:(r.2.2.1:List Int).getD (Int.toNat (i:Int)) 0=List.getD r.2.2.1 i 0:=by rw [Int.toNat_natCast]
   have fin:∀Q:_→Prop,Q (.inl ((w,(i:Int)+1,()),((s,()),(r.1,()),(r.2,()),()),()))→Tells (gd (inI ((i:Int)+(1:Int))) (some (Sum.inl (β:=((Bool×Unit)×(Unit×Unit)) ⊕ ((Unit×(((P_2×Unit)×(P_2×Unit)×Unit)×Unit)) ⊕ Empty)) ((w,(i:Int)+1,()),((s,()),(r.1,()),(r.2,()),()),())))) Q:=fun Q h=>Tells.gd (inI_nat hi hL) ⟨_,rfl,h⟩
   refine Tells.br (fun _=>?_) (fun h=>absurd (ltN_of hi) (by rw [h];simp))
   refine Tells.gd (inR_of hi) (Tells.gd (ltT_of hi) ?_)
   generalize hA:(s.2.1:List Int).getD i 0=a at q1 q2 ea
   generalize hB:(r.2.2.1:List Int).getD i 0=b at q1 q2 eb
   refine Tells.br (fun h0=>?_) (fun h0=>?_)
   ·have h0:a=0:=by have:=c_eqT.1 h0;rw [ea] at this;exact this
    refine Tells.gd (inR_of hi2) (Tells.gd (ltT_of hi2) (Tells.gd (inR_of hi2) (Tells.gd (ltT_of hi2) (Tells.gd (inR_of hi) (Tells.gd (ltT_of hi) ?_)))))
    have phs:b=w→Tells (xbr (decide (r.1.2.1<(3:Int))==false) (xbr (decide (r.1.2.1>(5:Int))) (some (.inr (.inl ((false,()),(),())))) (gd (inI ((i:Int)+(1:Int))) (some (Sum.inl (β:=((Bool×Unit)×(Unit×Unit)) ⊕ ((Unit×(((P_2×Unit)×(P_2×Unit)×Unit)×Unit)) ⊕ Empty)) ((w,(i:Int)+1,()),((s,()),(r.1,()),(r.2,()),()),()))))) (some (.inr (.inl ((false,()),(),()))))) (· = Sum.inl ((w,(i:Int)+1,()),((s,()),(r.1,()),(r.2,()),()),())):=fun hbw=>by
     obtain ⟨p1,p2⟩:=q2 h0 hbw
     refine Tells.br (fun _=>Tells.br (fun h=>absurd (of_decide_eq_true h) (by omega)) (fun _=>fin _ rfl)) (fun h=>absurd (c_lt.2 p1) (by rw [h];simp))
    refine Tells.br (fun h1=>?_) (fun h1=>?_)
    ·have h1:b≠a:=by
      have h1:((r.2.2.1:List Int).getD (Int.toNat (i:Int)) 0 != (s.2.1:List Int).getD (Int.toNat (i:Int)) 0)=true:=eq_of_beq h1
      rw [ea,eb] at h1;simpa using h1
     have hbw:=(q1 h1).2
     have hbT:((r.2.2.1:List Int).getD (Int.toNat (i:Int)) 0==w)=true:=by rw [eb,hbw];simp
     refine Tells.br (fun _=>?_) (fun h=>absurd h (by show ¬ ((!((r.2.2.1:List Int).getD (Int.toNat (i:Int)) 0==w))==false)=false;rw [hbT];simp))
     refine Tells.br (fun _=>?_) (fun h=>absurd h (by show ¬ (((r.2.2.1:List Int).getD (Int.toNat (i:Int)) 0==w)==true)=false;rw [hbT];simp))
     exact (phs hbw).mono fun x hx=>by rw [hx];exact ⟨rfl,trivial⟩
    ·refine Tells.br (fun h2=>?_) (fun h2=>fin _ ⟨rfl,trivial⟩)
     have h2:b=w:=by have:=c_eqT.1 h2;rw [eb] at this;exact this
     exact (phs h2).mono fun x hx=>by rw [hx];exact ⟨rfl,trivial⟩
   ·have h0:a≠0:=fun c=>by
     have h0:(((s.2.1:List Int).getD (Int.toNat (i:Int)) 0==0)==true)=false:=h0
     rw [ea,c] at h0;cases h0
    refine Tells.gd (inR_of hi2) (Tells.gd (ltT_of hi2) (Tells.gd (inR_of hi) (Tells.gd (ltT_of hi) ?_)))
    refine Tells.br (fun h1=>?_) (fun _=>fin _ ⟨rfl,trivial⟩)
    have h1:b≠a:=by
     have h1:((r.2.2.1:List Int).getD (Int.toNat (i:Int)) 0 != (s.2.1:List Int).getD (Int.toNat (i:Int)) 0)=true:=eq_of_beq h1
     rw [ea,eb] at h1;simpa using h1
    exact absurd (q1 h1).1 h0
  ·exact Tells.br (fun h=>absurd ltN_no (by rw [h];simp)) (fun _=>⟨_,rfl,rfl⟩)
  match y,hy with
  | .inr (.inl y),h=>
   have h:y=((),((s,()),(r.2,()),()),()):=h
   subst h
   have e:((r.2.1,s.2.1,r.2.2.2):P_2)=s:=by rw [k3,k4]
   have eS:F_h ((r.2.1,s.2.1,r.2.2.2),s,())=some (true,()):=(congrArg (fun t:P_2=>F_h (t,s,())) e).trans (sameSight s hS.cl)
   exact Tells.xbe eS (Tells.br (fun _=>lived) (fun h=>absurd h (by decide)))
theorem snapKeeps_true (x:DenL [.int,z3,z5]) (h:OkL [.int,z3,z5] x):F_R x=some (true,()):=by
 obtain ⟨g,⟨n0,n1,u⟩,s,u2⟩:=x
 obtain ⟨hg,hn,hs,_⟩:=h
 exact keeps_core g n0 n1 s hg hs.2.2.2.1
end Go.Proofs.YtdbjakibneeeiaaGreatDoor.Ex
