/- The laws: what they come to, told by live as a variable. -/
import Derived.Test.YtdbjakibneeeiaaGreatDoorKG40ExPi
import Derived.Test.YtdbjakibneeeiaaGreatDoorKExRl
import Derived.Test.YtdbjakibneeeiaaGreatDoorKExPm
set_option linter.all false
set_option maxHeartbeats 4000000
set_option maxRecDepth 100000
namespace Go.Proofs.YtdbjakibneeeiaaGreatDoor.Ex
open Go.RowKit Sx
noncomputable def W_2 (fl:DenL []→Option (DenL [.bool])) (x:(Int×Tk)):Option (DenL [.bool]):=
 xb (F_e x.2.2) (fun (y0:(Bool×Unit))=>xbr ((!y0.1)==false) (xb (F_M x.2.2) (fun (y1:(Bool×Unit))=>xbr ((!y1.1)==false) (gd (inR (0:Int) (2:Nat)) (xbr ((decide (x.2.1.1<(1:Int)))==false) (gd (inR (1:Int) (2:Nat)) (xbr ((decide (x.2.1.2.1<(0:Int)))==false) (gd (inR (1:Int) (2:Nat)) (xbr (decide (x.2.1.2.1>(60:Int))) (xb (fl ()) (fun (y2:(Bool×Unit))=>some y2)) (xb (F_3 (x.1,())) (fun (y3:(Y7×Unit))=>xb (F_4 x.2.2) (fun (y4:(Y5×Unit))=>xb (xloop (S:=(Y14×(((Y3×Unit)×((Y7×Unit)×T3))×Unit))) (R:=(T0 ⊕ ((Y3×(Unit×Unit)) ⊕ Empty))) (fun (s5:(Y14×(((Y3×Unit)×((Y7×Unit)×T3))×Unit)))=>gd (inR (1:Int) (2:Nat)) (xbr (decide (s5.1.2.2.1<s5.2.1.1.1.2.1)) (gd (inR (0:Int) (2:Nat)) (xb (F_9 (s5.2.1.2.1.1,(s5.2.1.1.1.1,s5.2.1.2.2.1))) (fun (y6:(Bool×Unit))=>gd (inR (0:Int) (2:Nat)) (xb (F_2 (s5.2.1.2.1.1,(s5.2.1.1.1.1,s5.2.1.2.2.1))) (fun (y7:T8)=>xbr (y6.1==true) (xbr ((s5.2.1.2.1.1.2.1==(2:Int))==true) (xbr ((!((y7.2.2.1==(1:Int))==(s5.2.1.2.1.1.2.2.1==(0:Int))))==false) (xbr (y6.1==true) (xbr ((!((y7.2.2.1==(2:Int))==(s5.2.1.2.1.1.2.1==(4:Int))))==false) (xbr ((decide (y7.2.2.1<(0:Int)))==false) (xbr (decide (y7.2.2.1>(2:Int))) (some (.inr (.inl ((false,()),((),()))))) (xbr (y7.2.2.1==(1:Int)) (gd (inI (s5.1.1+(1:Int))) (xbr (y7.2.2.1==(2:Int)) (gd (inI (s5.1.2.1+(1:Int))) (gd (inI (s5.1.2.2.1+(1:Int))) (some (.inl (((s5.1.1+(1:Int)),((s5.1.2.1+(1:Int)),((s5.1.2.2.1+(1:Int)),()))),((s5.2.1.1,((y7.1,()),((y7.2.1,()),()))),())))))) (gd (inI (s5.1.2.2.1+(1:Int))) (some (.inl (((s5.1.1+(1:Int)),(s5.1.2.1,((s5.1.2.2.1+(1:Int)),()))),((s5.2.1.1,((y7.1,()),((y7.2.1,()),()))),()))))))) (xbr (y7.2.2.1==(2:Int)) (gd (inI (s5.1.2.1+(1:Int))) (gd (inI (s5.1.2.2.1+(1:Int))) (some (.inl ((s5.1.1,((s5.1.2.1+(1:Int)),((s5.1.2.2.1+(1:Int)),()))),((s5.2.1.1,((y7.1,()),((y7.2.1,()),()))),())))))) (gd (inI (s5.1.2.2.1+(1:Int))) (some (.inl ((s5.1.1,(s5.1.2.1,((s5.1.2.2.1+(1:Int)),()))),((s5.2.1.1,((y7.1,()),((y7.2.1,()),()))),())))))))) (some (.inr (.inl ((false,()),((),())))))) (some (.inr (.inl ((false,()),((),())))))) (xbr ((!((y7.2.2.1==(2:Int))==false))==false) (xbr ((decide (y7.2.2.1<(0:Int)))==false) (xbr (decide (y7.2.2.1>(2:Int))) (some (.inr (.inl ((false,()),((),()))))) (xbr (y7.2.2.1==(1:Int)) (gd (inI (s5.1.1+(1:Int))) (xbr (y7.2.2.1==(2:Int)) (gd (inI (s5.1.2.1+(1:Int))) (gd (inI (s5.1.2.2.1+(1:Int))) (some (.inl (((s5.1.1+(1:Int)),((s5.1.2.1+(1:Int)),((s5.1.2.2.1+(1:Int)),()))),((s5.2.1.1,((y7.1,()),((y7.2.1,()),()))),())))))) (gd (inI (s5.1.2.2.1+(1:Int))) (some (.inl (((s5.1.1+(1:Int)),(s5.1.2.1,((s5.1.2.2.1+(1:Int)),()))),((s5.2.1.1,((y7.1,()),((y7.2.1,()),()))),()))))))) (xbr (y7.2.2.1==(2:Int)) (gd (inI (s5.1.2.1+(1:Int))) (gd (inI (s5.1.2.2.1+(1:Int))) (some (.inl ((s5.1.1,((s5.1.2.1+(1:Int)),((s5.1.2.2.1+(1:Int)),()))),((s5.2.1.1,((y7.1,()),((y7.2.1,()),()))),())))))) (gd (inI (s5.1.2.2.1+(1:Int))) (some (.inl ((s5.1.1,(s5.1.2.1,((s5.1.2.2.1+(1:Int)),()))),((s5.2.1.1,((y7.1,()),((y7.2.1,()),()))),())))))))) (some (.inr (.inl ((false,()),((),())))))) (some (.inr (.inl ((false,()),((),()))))))) (some (.inr (.inl ((false,()),((),())))))) (xbr ((!((y7.2.2.1==(1:Int))==false))==false) (xbr (y6.1==true) (xbr ((!((y7.2.2.1==(2:Int))==(s5.2.1.2.1.1.2.1==(4:Int))))==false) (xbr ((decide (y7.2.2.1<(0:Int)))==false) (xbr (decide (y7.2.2.1>(2:Int))) (some (.inr (.inl ((false,()),((),()))))) (xbr (y7.2.2.1==(1:Int)) (gd (inI (s5.1.1+(1:Int))) (xbr (y7.2.2.1==(2:Int)) (gd (inI (s5.1.2.1+(1:Int))) (gd (inI (s5.1.2.2.1+(1:Int))) (some (.inl (((s5.1.1+(1:Int)),((s5.1.2.1+(1:Int)),((s5.1.2.2.1+(1:Int)),()))),((s5.2.1.1,((y7.1,()),((y7.2.1,()),()))),())))))) (gd (inI (s5.1.2.2.1+(1:Int))) (some (.inl (((s5.1.1+(1:Int)),(s5.1.2.1,((s5.1.2.2.1+(1:Int)),()))),((s5.2.1.1,((y7.1,()),((y7.2.1,()),()))),()))))))) (xbr (y7.2.2.1==(2:Int)) (gd (inI (s5.1.2.1+(1:Int))) (gd (inI (s5.1.2.2.1+(1:Int))) (some (.inl ((s5.1.1,((s5.1.2.1+(1:Int)),((s5.1.2.2.1+(1:Int)),()))),((s5.2.1.1,((y7.1,()),((y7.2.1,()),()))),())))))) (gd (inI (s5.1.2.2.1+(1:Int))) (some (.inl ((s5.1.1,(s5.1.2.1,((s5.1.2.2.1+(1:Int)),()))),((s5.2.1.1,((y7.1,()),((y7.2.1,()),()))),())))))))) (some (.inr (.inl ((false,()),((),())))))) (some (.inr (.inl ((false,()),((),())))))) (xbr ((!((y7.2.2.1==(2:Int))==false))==false) (xbr ((decide (y7.2.2.1<(0:Int)))==false) (xbr (decide (y7.2.2.1>(2:Int))) (some (.inr (.inl ((false,()),((),()))))) (xbr (y7.2.2.1==(1:Int)) (gd (inI (s5.1.1+(1:Int))) (xbr (y7.2.2.1==(2:Int)) (gd (inI (s5.1.2.1+(1:Int))) (gd (inI (s5.1.2.2.1+(1:Int))) (some (.inl (((s5.1.1+(1:Int)),((s5.1.2.1+(1:Int)),((s5.1.2.2.1+(1:Int)),()))),((s5.2.1.1,((y7.1,()),((y7.2.1,()),()))),())))))) (gd (inI (s5.1.2.2.1+(1:Int))) (some (.inl (((s5.1.1+(1:Int)),(s5.1.2.1,((s5.1.2.2.1+(1:Int)),()))),((s5.2.1.1,((y7.1,()),((y7.2.1,()),()))),()))))))) (xbr (y7.2.2.1==(2:Int)) (gd (inI (s5.1.2.1+(1:Int))) (gd (inI (s5.1.2.2.1+(1:Int))) (some (.inl ((s5.1.1,((s5.1.2.1+(1:Int)),((s5.1.2.2.1+(1:Int)),()))),((s5.2.1.1,((y7.1,()),((y7.2.1,()),()))),())))))) (gd (inI (s5.1.2.2.1+(1:Int))) (some (.inl ((s5.1.1,(s5.1.2.1,((s5.1.2.2.1+(1:Int)),()))),((s5.2.1.1,((y7.1,()),((y7.2.1,()),()))),())))))))) (some (.inr (.inl ((false,()),((),())))))) (some (.inr (.inl ((false,()),((),()))))))) (some (.inr (.inl ((false,()),((),()))))))) (xbr ((!((y7.2.2.1==(1:Int))==false))==false) (xbr (y6.1==true) (xbr ((!((y7.2.2.1==(2:Int))==(s5.2.1.2.1.1.2.1==(4:Int))))==false) (xbr ((decide (y7.2.2.1<(0:Int)))==false) (xbr (decide (y7.2.2.1>(2:Int))) (some (.inr (.inl ((false,()),((),()))))) (xbr (y7.2.2.1==(1:Int)) (gd (inI (s5.1.1+(1:Int))) (xbr (y7.2.2.1==(2:Int)) (gd (inI (s5.1.2.1+(1:Int))) (gd (inI (s5.1.2.2.1+(1:Int))) (some (.inl (((s5.1.1+(1:Int)),((s5.1.2.1+(1:Int)),((s5.1.2.2.1+(1:Int)),()))),((s5.2.1.1,((y7.1,()),((y7.2.1,()),()))),())))))) (gd (inI (s5.1.2.2.1+(1:Int))) (some (.inl (((s5.1.1+(1:Int)),(s5.1.2.1,((s5.1.2.2.1+(1:Int)),()))),((s5.2.1.1,((y7.1,()),((y7.2.1,()),()))),()))))))) (xbr (y7.2.2.1==(2:Int)) (gd (inI (s5.1.2.1+(1:Int))) (gd (inI (s5.1.2.2.1+(1:Int))) (some (.inl ((s5.1.1,((s5.1.2.1+(1:Int)),((s5.1.2.2.1+(1:Int)),()))),((s5.2.1.1,((y7.1,()),((y7.2.1,()),()))),())))))) (gd (inI (s5.1.2.2.1+(1:Int))) (some (.inl ((s5.1.1,(s5.1.2.1,((s5.1.2.2.1+(1:Int)),()))),((s5.2.1.1,((y7.1,()),((y7.2.1,()),()))),())))))))) (some (.inr (.inl ((false,()),((),())))))) (some (.inr (.inl ((false,()),((),())))))) (xbr ((!((y7.2.2.1==(2:Int))==false))==false) (xbr ((decide (y7.2.2.1<(0:Int)))==false) (xbr (decide (y7.2.2.1>(2:Int))) (some (.inr (.inl ((false,()),((),()))))) (xbr (y7.2.2.1==(1:Int)) (gd (inI (s5.1.1+(1:Int))) (xbr (y7.2.2.1==(2:Int)) (gd (inI (s5.1.2.1+(1:Int))) (gd (inI (s5.1.2.2.1+(1:Int))) (some (.inl (((s5.1.1+(1:Int)),((s5.1.2.1+(1:Int)),((s5.1.2.2.1+(1:Int)),()))),((s5.2.1.1,((y7.1,()),((y7.2.1,()),()))),())))))) (gd (inI (s5.1.2.2.1+(1:Int))) (some (.inl (((s5.1.1+(1:Int)),(s5.1.2.1,((s5.1.2.2.1+(1:Int)),()))),((s5.2.1.1,((y7.1,()),((y7.2.1,()),()))),()))))))) (xbr (y7.2.2.1==(2:Int)) (gd (inI (s5.1.2.1+(1:Int))) (gd (inI (s5.1.2.2.1+(1:Int))) (some (.inl ((s5.1.1,((s5.1.2.1+(1:Int)),((s5.1.2.2.1+(1:Int)),()))),((s5.2.1.1,((y7.1,()),((y7.2.1,()),()))),())))))) (gd (inI (s5.1.2.2.1+(1:Int))) (some (.inl ((s5.1.1,(s5.1.2.1,((s5.1.2.2.1+(1:Int)),()))),((s5.2.1.1,((y7.1,()),((y7.2.1,()),()))),())))))))) (some (.inr (.inl ((false,()),((),())))))) (some (.inr (.inl ((false,()),((),()))))))) (some (.inr (.inl ((false,()),((),()))))))))))) (some (.inr (.inr (.inl ((s5.1.1,(s5.1.2.1,())),((),())))))))) xmany (((0:Int),((0:Int),((0:Int),()))),(((x.2.1,()),(y3,(y4,()))),()))) (fun (y8:(T0 ⊕ ((Y3×(Unit×Unit)) ⊕ Empty)))=>xs y8 (fun (y9:T0)=>some y9.1) (fun (y10:((Y3×(Unit×Unit)) ⊕ Empty))=>xs y10 (fun (y11:(Y3×(Unit×Unit)))=>xbr ((decide (y11.1.1≤(2:Int)))==true) (xbr ((decide (y11.1.2.1≤(1:Int)))==true) (xb (fl ()) (fun (y12:(Bool×Unit))=>some y12)) (some (false,()))) (some (false,()))) (fun (y13:Empty)=>xe y13)))))))) (xb (fl ()) (fun (y14:(Bool×Unit))=>some y14)))) (xb (fl ()) (fun (y15:(Bool×Unit))=>some y15)))) (xb (fl ()) (fun (y16:(Bool×Unit))=>some y16)))) (xb (fl ()) (fun (y17:(Bool×Unit))=>some y17)))
theorem law18_SnapMarks_gen (fl:DenL []→Option (DenL [.bool])) (x:(Int×Tk)):xfun Tryz.prog EN { t_3 with sm:=repl 11 ⟨[],[.bool],fl⟩ t_3.sm } h_4 8 [.int,z3,z5] [.bool] x=W_2 fl x:=by kernel_rfl
theorem law18_SnapMarks_once:onceK t_3.sm=true:=by kernel_rfl
theorem law18_SnapMarks_0:lk t_3.sm 11=some ⟨[],[.bool],F_1⟩:=by kernel_rfl
theorem law18_SnapMarks_tab:{ t_3 with sm:=repl 11 ⟨[],[.bool],F_1⟩ t_3.sm }=t_3:=
 with_sm (repl_tr (rfl:t_3.sm=t_3.sm) law18_SnapMarks_once law18_SnapMarks_0)
theorem R_03 (x:(Int×Tk)):F_T x=W_2 F_1 x:=by
 have h:=law18_SnapMarks_gen F_1 x
 rw [law18_SnapMarks_tab] at h
 unfold F_T
 exact h
end Go.Proofs.YtdbjakibneeeiaaGreatDoor.Ex
namespace Go.Proofs.YtdbjakibneeeiaaGreatDoor.Ex
open Go.RowKit Sx
theorem marks_tail {Z R:Type} (z:Z) (no:R) {Q:((Int×Int×Int×Unit)×Z) ⊕ R→Prop} (m p k told:Int) (t0:0≤told) (t2:told≤2) (hm:inI (m+1)=true) (hp:inI (p+1)=true) (hk:inI (k+1)=true)
  (h:Q (.inl ((m+(if told=1 then 1 else 0),p+(if told=2 then 1 else 0),k+1,()),z))) :
  Tells (xbr (decide (told<(0:Int))==false) (xbr (decide (told>(2:Int))) (some (.inr no)) (xbr (told==(1:Int)) (gd (inI (m+(1:Int))) (xbr (told==(2:Int)) (gd (inI (p+(1:Int))) (gd (inI (k+(1:Int))) (some (.inl ((m+(1:Int),p+(1:Int),k+(1:Int),()),z))))) (gd (inI (k+(1:Int))) (some (.inl ((m+(1:Int),p,k+(1:Int),()),z))))))
   (xbr (told==(2:Int)) (gd (inI (p+(1:Int))) (gd (inI (k+(1:Int))) (some (.inl ((m,p+(1:Int),k+(1:Int),()),z))))) (gd (inI (k+(1:Int))) (some (.inl ((m,p,k+(1:Int),()),z))))))) (some (.inr no))) Q:=by
 refine Tells.br (fun _=>Tells.br (fun h=>absurd (of_decide_eq_true h) (by omega)) (fun _=>?_)) (fun h=>absurd h (by rw [c_lt.2 t0];simp))
 refine Tells.br (fun h1=>Tells.gd hm (Tells.br (fun h2=>?_) (fun h2=>?_))) (fun h1=>Tells.br (fun h2=>?_) (fun h2=>?_))
 ·have h1:=eq_of_beq h1
  have h2:=eq_of_beq h2
  omega
 ·have h1:=eq_of_beq h1
  subst h1
  exact Tells.gd hk ⟨_,rfl,by simpa using h⟩
 ·have h2:=eq_of_beq h2
  subst h2
  exact Tells.gd hp (Tells.gd hk ⟨_,rfl,by simpa using h⟩)
 ·have h1:=ne_of_beq_false h1
  have h2:=ne_of_beq_false h2
  rw [if_neg h1,if_neg h2,Int.add_zero,Int.add_zero] at h
  exact Tells.gd hk ⟨_,rfl,h⟩
theorem marks_core (g n0 n1:Int) (s:P_2) (hg:Fits g) (hs1:OkV (.row z4) s.2.2.2.1):F_T (g,(n0,n1,()),s,())=some (true,()):=by
 refine Tells.of_eq (Q:=fun _=>True) (Tells.of (R_03 _) ?_)
 unfold W_2
 refine Tells.xb (small16 s (shs_of _ hs1).1) fun y hy=>?_
 refine Tells.br (fun h1=>?_) (fun _=>lived)
 have hS:=sgG_of s hs1 (hy (not_f (eq_of_beq h1)))
 clear hy
 refine Tells.xb (may_D s hS.cl) fun y _=>?_
 refine Tells.br (fun _=>?_) (fun _=>lived)
 refine Tells.gd rfl (Tells.br (fun h1=>?_) (fun _=>lived))
 refine Tells.gd rfl (Tells.br (fun h1=>?_) (fun _=>lived))
 have a0:0≤n1:=c_lt.1 h1
 refine Tells.gd rfl (Tells.br (fun _=>lived) (fun h1=>?_))
 have a1:n1≤60:=Int.not_lt.1 (of_decide_eq_false h1)
 refine Tells.xbe (new_eq g) ?_
 refine Tells.xbe (ownSight_eq s (Nat.le_trans hS.2.1 (by decide))) ?_
 refine Tells.xb (Tells.cnt (Q:=fun r:((Bool×Unit)×(Unit×Unit)) ⊕ (((Int×Int×Unit)×(Unit×Unit)) ⊕ Empty)=>match r with | .inl _=>False | .inr (.inl y)=>y.1.1≤2∧y.1.2.1≤1 | .inr (.inr _)=>False)
  (fun k st=>∃(m p:Int) (v:P_1) (x:P_2),st=((m,p,(k:Int),()),(((n0,n1,()),()),(v,()),(x,()),()),())∧MJ m p v∧TkG k v∧SgG x∧m≤3∧p≤3) n1.toNat (by omega) (fun k st hk hI=>?_) (fun st hI=>?_) ⟨0,0,newP g,s,rfl,?_,newG g hg,hS,by decide,by decide⟩) (fun y hy=>?_)
 ·obtain ⟨m,p,v,x,rfl,hM,hv,hx,hm3,hp3⟩:=hI
  have hkI:decide ((k:Int)<n1)=true:=decide_eq_true (by omega)
  refine Tells.gd rfl (Tells.br (fun _=>?_) (fun h=>absurd hkI (by rw [h];simp)))
  obtain ⟨ea,hab⟩:=able_eq v n0 x hx.cl
  obtain ⟨en,g1,g2,_⟩:=next_eq v n0 x (n:=k) (by omega) hv hx
  refine Tells.gd rfl (Tells.xbe ea (Tells.gd rfl (Tells.xbe en ?_)))
  have key:∃t:Int,(nextP v n0 x).2.2.1=t∧0≤t∧t≤2∧(t==1)=(ableB v n0 x&&((v.2.1==2)&&(v.2.2.1==0)))∧(t==2)=(ableB v n0 x&&(v.2.1==4))∧MJ (m+(if t=1 then 1 else 0)) (p+(if t=2 then 1 else 0)) (nextP v n0 x).1:=by
   refine ⟨_,rfl,?_⟩
   unfold nextP
   cases hb:ableB v n0 x with
   | false=>
    refine ⟨Int.le_refl _,(show (0:Int)≤2 by decide),rfl,rfl,?_⟩
    show MJ (m+(if (0:Int)=1 then 1 else 0)) (p+(if (0:Int)=2 then 1 else 0)) v
    rw [if_neg (by decide),if_neg (by decide),Int.add_zero,Int.add_zero];exact hM
   | true=>
    obtain ⟨_,_,hph⟩:=hab hb
    have hst:=hM.step hph
    have ht:=MJ.tells hph
    show 0≤(stepP v n0 x).2.2.1∧(stepP v n0 x).2.2.1≤2∧((stepP v n0 x).2.2.1==1)=(true&&((v.2.1==2)&&(v.2.2.1==0)))∧((stepP v n0 x).2.2.1==2)=(true&&(v.2.1==4))∧MJ (m+(if (stepP v n0 x).2.2.1=1 then 1 else 0)) (p+(if (stepP v n0 x).2.2.1=2 then 1 else 0)) (stepP v n0 x).1
    refine ⟨by omega,by omega,?_,?_,hst⟩
    ·rw [Bool.true_and]
     rcases ht with ⟨e,h1,h2⟩ | ⟨e,h1,h2⟩ | ⟨e,h1⟩
     ·rw [e]
      by_cases c:v.2.1=2
      ·have:v.2.2.1≠0:=fun d=>h1 ⟨c,d⟩
       rw [c,beq_false_of_ne this];rfl
      ·rw [beq_false_of_ne c];rfl
     ·rw [e,h1,h2];rfl
     ·rw [e,h1];rfl
    ·rw [Bool.true_and]
     rcases ht with ⟨e,h1,h2⟩ | ⟨e,h1,h2⟩ | ⟨e,h1⟩
     ·rw [e,beq_false_of_ne h2];rfl
     ·rw [e,h1];rfl
     ·rw [e,h1];rfl
  obtain ⟨t,et,t0,t2,T1,T2,hMJ⟩:=key
  have hMJ2:=hMJ
  unfold MJ MJn at hMJ2
  have c1:(if t=1 then (1:Int) else 0)≤1:=by split <;> decide
  have c2:(if t=2 then (1:Int) else 0)≤1:=by split <;> decide
  have hm0:0≤m:=hM.2.1
  have hp0:0≤p:=hM.2.2.1
  have tail:=fun (Z:Type) (z:Z) (R:Type) (no:R) (Q:((Int×Int×Int×Unit)×Z) ⊕ R→Prop)=>marks_tail z no (Q:=Q) m p (k:Int) t t0 t2 (inI_of (by omega) (by omega)) (inI_of (by omega) (by omega)) (inI_of (by omega) (by omega))
  have hfin:∀(ma pa:Int),MJ ma pa (nextP v n0 x).1→ma≤3→pa≤3→∃(m p:Int) (v':P_1) (x':P_2),((ma,pa,(k:Int)+1,()),(((n0,n1,()),()),((nextP v n0 x).1,()),((nextP v n0 x).2.1,()),()),())=((m,p,((k+1:Nat):Int),()),(((n0,n1,()),()),(v',()),(x',()),()),())∧MJ m p v'∧TkG (k+1) v'∧SgG x'∧m≤3∧p≤3:=fun ma pa h h1 h2=>⟨ma,pa,_,_,rfl,h,g1,g2,h1,h2⟩
  have hend:=hfin _ _ hMJ (by omega) (by omega)
  clear hfin hMJ2
  generalize nextP v n0 x=r at *
  obtain ⟨v',x',t',u⟩:=r
  have et:t'=t:=et
  subst et
  generalize ableB v n0 x=b at *
  have fin:=fun Q=>tail _ ((((n0,n1,()),()),(v',()),(x',()),()),()) (((Bool×Unit)×(Unit×Unit)) ⊕ (((Int×Int×Unit)×(Unit×Unit)) ⊕ Empty)) (.inl ((false,()),(),())) Q
  refine Tells.br (fun hb=>?_) (fun hb=>?_)
  ·have hb:b=true:=eq_of_beq hb
   rw [hb,Bool.true_and] at T1 T2
   have X2:((!((t'==(2:Int))==(v.2.1==(4:Int))))==false)=true:=by rw [T2];simp
   refine Tells.br (fun h2=>?_) (fun h2=>?_)
   ·have h2:(v.2.1==(2:Int))=true:=eq_of_beq h2
    rw [h2,Bool.true_and] at T1
    have X1:((!((t'==(1:Int))==(v.2.2.1==(0:Int))))==false)=true:=by rw [T1];simp
    refine Tells.br (fun _=>?_) (fun h=>absurd X1 (by rw [h];simp))
    refine Tells.br (fun _=>?_) (fun h=>absurd h (by rw [hb];simp))
    refine Tells.br (fun _=>?_) (fun h=>absurd X2 (by rw [h];simp))
    exact fin _ hend
   ·have h2:(v.2.1==(2:Int))=false:=by cases hh:(v.2.1==(2:Int)) with | true=>rw [hh] at h2;cases h2 | false=>rfl
    rw [h2,Bool.false_and] at T1
    have X1:((!((t'==(1:Int))==false))==false)=true:=by rw [T1];rfl
    refine Tells.br (fun _=>?_) (fun h=>absurd X1 (by rw [h];simp))
    refine Tells.br (fun _=>?_) (fun h=>absurd h (by rw [hb];simp))
    refine Tells.br (fun _=>?_) (fun h=>absurd X2 (by rw [h];simp))
    exact fin _ hend
  ·have hb:b=false:=by cases b with | true=>cases hb | false=>rfl
   rw [hb,Bool.false_and] at T1 T2
   have X1:((!((t'==(1:Int))==false))==false)=true:=by rw [T1];rfl
   have X2:((!((t'==(2:Int))==false))==false)=true:=by rw [T2];rfl
   refine Tells.br (fun _=>?_) (fun h=>absurd X1 (by rw [h];simp))
   refine Tells.br (fun h=>absurd h (by rw [hb];simp)) (fun _=>?_)
   refine Tells.br (fun _=>?_) (fun h=>absurd X2 (by rw [h];simp))
   exact fin _ hend
 ·obtain ⟨m,p,v,x,rfl,hM,hv,hx,_,_⟩:=hI
  have hkI:decide (((n1.toNat:Nat):Int)<n1)=false:=decide_eq_false (by omega)
  refine Tells.gd rfl (Tells.br (fun h=>absurd h (by rw [hkI];simp)) (fun _=>⟨_,rfl,?_⟩))
  unfold MJ MJn at hM
  show m≤2∧p≤1
  omega
 ·show MJn 0 0 0 0 0
  unfold MJn;omega
 ·match y,hy with
  | .inr (.inl y),⟨h1,h2⟩=>
   refine Tells.br (fun _=>Tells.br (fun _=>lived) (fun h=>absurd (c_le.2 h2) (by rw [h];simp))) (fun h=>absurd (c_le.2 h1) (by rw [h];simp))
theorem snapMarks_true (x:DenL [.int,z3,z5]) (h:OkL [.int,z3,z5] x):F_T x=some (true,()):=by
 obtain ⟨g,⟨n0,n1,u⟩,s,u2⟩:=x
 obtain ⟨hg,hn,hs,_⟩:=h
 exact marks_core g n0 n1 s hg hs.2.2.2.1
end Go.Proofs.YtdbjakibneeeiaaGreatDoor.Ex
