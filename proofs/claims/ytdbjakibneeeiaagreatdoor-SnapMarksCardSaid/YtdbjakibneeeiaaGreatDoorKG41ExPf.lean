/- Layer 18 (snap), purely: what is handed over, told, and the same. -/
import Derived.Test.YtdbjakibneeeiaaGreatDoorKG40ExPi
set_option linter.all false
set_option maxHeartbeats 4000000
set_option maxRecDepth 100000
namespace Go.Proofs.YtdbjakibneeeiaaGreatDoor.Ex
open Go.RowKit Sx
theorem loop_take {S A R:Type} {step:S→Option (S ⊕ R)} (mk:Int→List A→S) (L:List A) (d:A) (out:List A→R) (hL:L.length≤9223372036854775807)
  (h:∀(k:Nat) (acc:List A),k<L.length→acc.length=k→step (mk (k:Int) acc)=some (.inl (mk ((k:Int)+1) (acc++[L.getD (Int.toNat (k:Int)) d])))) (he:∀acc:List A,step (mk (L.length:Int) acc)=some (.inr (out acc))) {s:S} (hs:s=mk 0 []):xloop step xmany s=some (out L):=by
 refine Tells.of_eq (Q:=fun _=>True) (Tells.idx (Q:=fun r=>r=out L) (fun k=>mk (k:Int) (L.take k)) (fun _=>True) L.length hL trivial (fun k hk _=>?_) (fun _=>?_) hs)
 ·rw [h k (L.take k) hk (by rw [List.length_take];omega)]
  refine ⟨_,rfl,?_,trivial⟩
  rw [List.take_succ_eq_append_getElem hk,Int.toNat_natCast,getD_lt hk];rfl
 ·rw [List.take_length,he]
  exact ⟨_,rfl,rfl⟩
theorem loop_takeX {X A R:Type} {step:(Int×Unit)×(X×(List A×Unit))→Option (((Int×Unit)×(X×(List A×Unit))) ⊕ R)} {x:X} (L:List A) (d:A) (out:X→List A→R) (hL:L.length≤9223372036854775807)
  (h:∀(k:Nat) (acc:List A),k<L.length→acc.length=k→step (((k:Int),()),x,acc,())=some (.inl (((k:Int)+1,()),x,acc++[L.getD (Int.toNat (k:Int)) d],()))) (he:∀acc:List A,step (((L.length:Int),()),x,acc,())=some (.inr (out x acc))):xloop step xmany (((0:Int),()),x,[],())=some (out x L):=
 loop_take (fun k acc=>((k,()),x,acc,())) L d (out x) hL h he rfl
theorem bleA {n k c:Nat} (hk:k<n) (hn:n≤1000000) (hc:c≤1000):(Nat.ble (k+1) 9223372036854775807&&Nat.ble ((k+1)*c) 140737488355328)=true:=by
 rw [Bool.and_eq_true,Nat.ble_eq,Nat.ble_eq]
 have:(k+1)*c≤1000000*1000:=Nat.mul_le_mul (by omega) hc
 omega
theorem own11_eq (L:List P_0) (hL:L.length≤1000000):F_F (L,())=some (L,()):=by
 refine (R_5 (L,())).trans ?_
 refine (xb_e (loop_take (fun k acc=>((L,k,()),(),acc,())) L noSh (fun acc=>.inl ((),(),acc,())) (by omega) (fun k acc hk ha=>?_) (fun acc=>?_) rfl)).trans rfl
 ·refine (xbr_t (ltN_of hk)).trans ((gd_e (inR_of hk)).trans ((gd_e (ltT_of hk)).trans ((gd_e ?_).trans (gd_e (inI_nat hk (by omega))))))
  show (Nat.ble (acc.length+1) _&&Nat.ble ((acc.length+1)*32) _)=true
  rw [ha];exact bleA hk hL (by decide)
 ·exact xbr_f ltN_no
theorem ownSight_eq (s:P_2) (h:List.length s.2.2.2.1≤1000000):F_4 (s,())=some (s,()):=
 (R_6 (s,())).trans (xb_e (own11_eq _ h))
theorem own18_eq (v:P_1) (h:List.length v.2.2.2.2.2.1≤1000000):F_6 (v,())=some (v,()):=
 (R_7 (v,())).trans (xb_e (own11_eq _ h))
theorem toldSight_eq (s:P_2) (hL:List.length s.2.2.2.1≤1000000):F_p (s,())=some (s,()):=by
 refine (R_I (s,())).trans ?_
 refine (xb_e (loop_takeX (s.2.2.2.1:List P_0) noSh (fun x acc=>.inl ((),x.2,acc,())) (by omega) (fun k acc hk ha=>?_) (fun acc=>?_))).trans rfl
 ·refine (xbr_t (ltN_of hk)).trans ((gd_e (inR_of hk)).trans ((gd_e (ltT_of hk)).trans ((gd_e ?_).trans (gd_e (inI_nat hk (by omega))))))
  show (Nat.ble (acc.length+1) _&&Nat.ble ((acc.length+1)*32) _)=true
  rw [ha];exact bleA hk hL (by decide)
 ·exact xbr_f ltN_no
theorem told18_eq (v:P_1) (hL:List.length v.2.2.2.2.2.1≤1000000):F_N (v,())=some (v,()):=by
 refine (R_H (v,())).trans ?_
 refine (xb_e (loop_takeX (v.2.2.2.2.2.1:List P_0) noSh (fun x acc=>.inl ((),x.2,acc,())) (by omega) (fun k acc hk ha=>?_) (fun acc=>?_))).trans rfl
 ·refine (xbr_t (ltN_of hk)).trans ((gd_e (inR_of hk)).trans ((gd_e (ltT_of hk)).trans ((gd_e ?_).trans (gd_e (inI_nat hk (by omega))))))
  show (Nat.ble (acc.length+1) _&&Nat.ble ((acc.length+1)*32) _)=true
  rw [ha];exact bleA hk hL (by decide)
 ·exact xbr_f ltN_no
theorem loop_all {S R:Type} {step:S→Option (S ⊕ R)} (mk:Int→S) (n:Nat) (out:R) (hn:n≤9223372036854775807) (h:∀k:Nat,k<n→step (mk (k:Int))=some (.inl (mk ((k:Int)+1)))) (he:step (mk (n:Int))=some (.inr out)) {s:S} (hs:s=mk 0):xloop step xmany s=some out:=by
 refine Tells.of_eq (Q:=fun _=>True) (Tells.idx (Q:=fun r=>r=out) (fun k=>mk (k:Int)) (fun _=>True) n hn trivial (fun k hk _=>?_) (fun _=>?_) hs)
 ·rw [h k hk];exact ⟨_,rfl,rfl,trivial⟩
 ·rw [he];exact ⟨_,rfl,rfl⟩
theorem bne_no (x:Int):(x != x)=false:=by simp
theorem beq_yes (x:Int):(x==x)=true:=by simp
theorem eqBy_yes (x:ByteArray):eqBy x x=true:=decide_eq_true rfl
theorem same09 (L:List Int) (hL:L.length≤1000000):F_G (L,L,())=some (true,()):=by
 refine (R_Q (L,L,())).trans ?_
 refine (xbr_f (bne_no _)).trans ?_
 refine (xb_e (loop_all (fun k=>((L,L,k,()),(),())) L.length (.inr (.inl ((),(),()))) (by omega) (fun k hk=>?_) ?_ rfl)).trans rfl
 ·refine (xbr_t (ltN_of hk)).trans ((gd_e (inR_of hk)).trans ((gd_e (ltT_of hk)).trans ((gd_e (inR_of hk)).trans ((gd_e (ltT_of hk)).trans ((xbr_f (bne_no _)).trans (gd_e (inI_nat hk (by omega))))))))
 ·exact xbr_f ltN_no
theorem txs_same (L:List P_4) (hL:L.length≤1000000):F_H (L,L,())=some (true,()):=by
 refine (R_P (L,L,())).trans ?_
 refine (xbr_f (bne_no _)).trans ?_
 refine (xb_e (loop_all (fun k=>((L,L,k,()),(),())) L.length (.inr (.inl ((),(),()))) (by omega) (fun k hk=>?_) ?_ rfl)).trans rfl
 ·refine (xbr_t (ltN_of hk)).trans ((gd_e (inR_of hk)).trans ((gd_e (ltT_of hk)).trans ((gd_e (inR_of hk)).trans ((gd_e (ltT_of hk)).trans ((xbr_f ?_).trans (gd_e (inI_nat hk (by omega))))))))
  generalize (List.getD _ _ _:P_4)=t
  simp only [beq_yes,eqBy_yes,Bool.and_true,Bool.not_true]
 ·exact xbr_f ltN_no
theorem same05 (a:P_3) (hL:List.length a.2.2.1≤1000000):F_I (a,a,())=some (true,()):=by
 refine (R_O (a,a,())).trans ?_
 refine (xbr_t (by simp)).trans ((xbr_t (by simp)).trans ?_)
 exact (xb_e (txs_same _ hL))
theorem accs_same (L:List P_3) (hL:L.length≤1000000) (h:∀a:P_3,a∈L→List.length a.2.2.1≤1000000):F_06 (L,L,())=some (true,()):=by
 refine (R_N (L,L,())).trans ?_
 refine (xbr_f (bne_no _)).trans ?_
 refine (xb_e (loop_all (fun k=>((L,L,k,()),(),())) L.length (.inr (.inl ((),(),()))) (by omega) (fun k hk=>?_) ?_ rfl)).trans rfl
 ·have eg:(L:List P_3).getD (Int.toNat (k:Int)) ((0:Int),(0:Int),[],())=L[k]:=by rw [Int.toNat_natCast];exact getD_lt hk
  have hm:L[k]∈L:=List.getElem_mem hk
  have e:F_I ((L:List P_3).getD (Int.toNat (k:Int)) ((0:Int),(0:Int),[],()),(L:List P_3).getD (Int.toNat (k:Int)) ((0:Int),(0:Int),[],()),())=some (true,()):=by rw [eg];exact same05 _ (h _ hm)
  exact (xbr_t (ltN_of hk)).trans ((gd_e (inR_of hk)).trans ((gd_e (ltT_of hk)).trans ((gd_e (inR_of hk)).trans ((gd_e (ltT_of hk)).trans ((xb_e e).trans ((xbr_f rfl).trans (gd_e (inI_nat hk (by omega)))))))))
 ·exact xbr_f ltN_no
theorem same11 (c:P_0) (hL:List.length c.1≤1000000) (h:∀a:P_3,a∈c.1→List.length a.2.2.1≤1000000):F_g (c,c,())=some (true,()):=by
 refine (R_M (c,c,())).trans ?_
 exact (xbr_t (by simp)).trans (xb_e (accs_same _ hL h))
theorem same13 (r:P_6) (h:List.length r.2.2.1≤1000000):F_08 (r,r,())=some (true,()):=by
 refine (R_L (r,r,())).trans ?_
 refine (xbr_t (by simp)).trans ((xbr_t ?_).trans ((xbr_t (by simp)).trans (xb_e (txs_same _ h))))
 simp only [beq_yes,eqBy_yes,Bool.and_true,beq_self_eq_true]
theorem sameSight (s:P_2) (h:SgCl s):F_h (s,s,())=some (true,()):=by
 refine (R_K (s,s,())).trans ?_
 refine (xbr_t (by simp only [beq_yes,Bool.and_true,Bool.not_true,beq_self_eq_true])).trans ((xbr_t (by simp only [beq_yes,Bool.and_true,Bool.not_true,beq_self_eq_true])).trans ?_)
 refine (xb_e (same09 _ h.1)).trans ((xbr_t rfl).trans ((xbr_f (bne_no _)).trans ?_))
 have hL:=h.2.1
 refine (xb_e (loop_all (fun k=>((k,()),((s,()),(s,()),()),())) (List.length s.2.2.2.1) (.inr (.inl ((),(),()))) (by omega) (fun k hk=>?_) ?_ rfl)).trans rfl
 ·have eg:(s.2.2.2.1:List P_0).getD (Int.toNat (k:Int)) noSh=(s.2.2.2.1:List P_0)[k]:=by rw [Int.toNat_natCast];exact getD_lt hk
  have hm:(s.2.2.2.1:List P_0)[k]∈(s.2.2.2.1:List P_0):=List.getElem_mem hk
  have e:F_g ((s.2.2.2.1:List P_0).getD (Int.toNat (k:Int)) noSh,(s.2.2.2.1:List P_0).getD (Int.toNat (k:Int)) noSh,())=some (true,()):=by rw [eg];exact same11 _ (h.2.2 _ hm).1 (h.2.2 _ hm).2
  exact (xbr_t (ltN_of hk)).trans ((gd_e (inR_of hk)).trans ((gd_e (ltT_of hk)).trans ((gd_e (inR_of hk)).trans ((gd_e (ltT_of hk)).trans ((xb_e e).trans ((xbr_f rfl).trans (gd_e (inI_nat hk (by omega)))))))))
 ·exact xbr_f ltN_no
theorem same18 (v:P_1) (h:TkCl v):F_09 (v,v,())=some (true,()):=by
 refine (R_J (v,v,())).trans ?_
 refine (xbr_t (by simp)).trans ((xbr_t (by simp)).trans ((xbr_t (by simp)).trans ((xbr_t (by simp)).trans ?_)))
 refine (xb_e (same09 _ h.1)).trans ((xbr_t rfl).trans ((xbr_t (by simp)).trans ?_))
 refine (xb_e (same13 _ h.2.2)).trans ((xbr_f rfl).trans ?_)
 have hL:=h.2.1.1
 refine (xb_e (loop_all (fun k=>((k,()),((v,()),(v,()),()),())) (List.length v.2.2.2.2.2.1) (.inr (.inl ((),(),()))) (by omega) (fun k hk=>?_) ?_ rfl)).trans rfl
 ·have eg:(v.2.2.2.2.2.1:List P_0).getD (Int.toNat (k:Int)) noSh=(v.2.2.2.2.2.1:List P_0)[k]:=by rw [Int.toNat_natCast];exact getD_lt hk
  have hm:(v.2.2.2.2.2.1:List P_0)[k]∈(v.2.2.2.2.2.1:List P_0):=List.getElem_mem hk
  have e:F_g ((v.2.2.2.2.2.1:List P_0).getD (Int.toNat (k:Int)) noSh,(v.2.2.2.2.2.1:List P_0).getD (Int.toNat (k:Int)) noSh,())=some (true,()):=by rw [eg];exact same11 _ (h.2.1.2 _ hm).1 (h.2.1.2 _ hm).2
  exact (xbr_t (ltN_of hk)).trans ((gd_e (inR_of hk)).trans ((gd_e (ltT_of hk)).trans ((gd_e (inR_of hk)).trans ((gd_e (ltT_of hk)).trans ((xb_e e).trans ((xbr_f rfl).trans (gd_e (inI_nat hk (by omega)))))))))
 ·exact xbr_f ltN_no
end Go.Proofs.YtdbjakibneeeiaaGreatDoor.Ex
namespace Go.Proofs.YtdbjakibneeeiaaGreatDoor.Ex
open Go.RowKit Sx
noncomputable def ableB (v:P_1) (w:Int) (s:P_2):Bool:=((F_9 (v,w,s,())).getD (false,())).1
theorem able_eq (v:P_1) (w:Int) (s:P_2) (h:SgCl s):F_9 (v,w,s,())=some (ableB v w s,())∧(ableB v w s=true→MayOk s∧1≤w∧AblePh v w s):=by
 obtain ⟨m,em,hm,⟨⟨b,u⟩,e,hb⟩⟩:=able_tells v w s h
 have e2:ableB v w s=b:=by unfold ableB;rw [e];rfl
 rw [e2]
 exact ⟨e,fun h=>by
  obtain ⟨h1,h2,h3⟩:=hb.1 h
  exact ⟨hm h2,h1,h3⟩⟩
noncomputable def nextP (v:P_1) (w:Int) (s:P_2):P_1×P_2×Int×Unit:=bif ableB v w s then stepP v w s else (v,s,0,())
theorem next_eq {n:Nat} (v:P_1) (w:Int) (s:P_2) (hn:n<1000) (hv:TkG n v) (hs:SgG s) :
  F_2 (v,w,s,())=some (nextP v w s)∧TkG (n+1) (nextP v w s).1∧SgG (nextP v w s).2.1∧List.length (nextP v w s).2.1.2.1=List.length s.2.1∧(nextP v w s).2.1.1=s.1∧(nextP v w s).2.1.2.2=s.2.2:=by
 obtain ⟨e,h⟩:=able_eq v w s hs.cl
 unfold nextP
 cases hb:ableB v w s with
 | true=>
  obtain ⟨h1,h2,h3⟩:=h hb
  exact step_eq v w s hn hv hs (e.trans (by rw [hb])) h1 h2 h3
 | false=>
  refine ⟨?_,hv.mono (Nat.le_succ _),hs,rfl,rfl,rfl⟩
  unfold F_2
  rw [hb] at e
  refine (xb_e e).trans ((xbr_f rfl).trans ?_)
  unfold snapEnd
  refine (xb_e (copied_eq v (hv.cl (by omega)))).trans ?_
  exact xb_e (copiedSight_eq s hs.cl)
noncomputable def runP:Nat→P_1→Int→P_2→P_1×P_2
 | 0,v,_,s=>(v,s)
 | n+1,v,w,s=>bif ableB v w s then runP n (stepP v w s).1 w (stepP v w s).2.1 else (v,s)
theorem runP_stay {v:P_1} {w:Int} {s:P_2} (h:ableB v w s=false):∀n,runP n v w s=(v,s)
 | 0=>rfl
 | n+1=>by
  show (bif ableB v w s then _ else (v,s))=(v,s)
  rw [h];rfl
theorem run_add (w:Int) (b:Nat):∀(a:Nat) (v:P_1) (s:P_2),runP (a+b) v w s=runP b (runP a v w s).1 w (runP a v w s).2
 | 0,v,s=>by rw [Nat.zero_add];rfl
 | a+1,v,s=>by
  rw [Nat.succ_add]
  show (bif ableB v w s then runP (a+b) (stepP v w s).1 w (stepP v w s).2.1 else (v,s))=runP b (bif ableB v w s then runP a (stepP v w s).1 w (stepP v w s).2.1 else (v,s)).1 w (bif ableB v w s then runP a (stepP v w s).1 w (stepP v w s).2.1 else (v,s)).2
  cases h:ableB v w s with
  | true=>exact run_add w b a _ _
  | false=>exact (runP_stay h b).symm
structure Along (w:Int) (m:Nat) (I:Nat→P_1→P_2→Prop):Prop where
 good:∀{k v s},I k v s→TkG 900 v∧SgG s
 step:∀{k v s},k<m→I k v s→ableB v w s=true→MayOk s→1≤w→AblePh v w s→I (k+1) (stepP v w s).1 (stepP v w s).2.1
theorem Along.run {w:Int} {m:Nat} {I:Nat→P_1→P_2→Prop} (h:Along w m I):∀(n k:Nat) (v:P_1) (s:P_2),k+n≤m→I k v s→∃j,j≤k+n∧I j (runP n v w s).1 (runP n v w s).2
 | 0,k,v,s,_,hi=>⟨k,Nat.le_refl _,hi⟩
 | n+1,k,v,s,hk,hi=>by
  show ∃j,j≤k+(n+1)∧I j (bif ableB v w s then runP n (stepP v w s).1 w (stepP v w s).2.1 else (v,s)).1 (bif ableB v w s then runP n (stepP v w s).1 w (stepP v w s).2.1 else (v,s)).2
  cases hb:ableB v w s with
  | false=>exact ⟨k,by omega,hi⟩
  | true=>
   obtain ⟨h1,h2,h3⟩:=(able_eq v w s (h.good hi).2.cl).2 hb
   obtain ⟨j,h4,h5⟩:=h.run n (k+1) _ _ (by omega) (h.step (by omega) hi hb h1 h2 h3)
   exact ⟨j,by omega,h5⟩
theorem along_few (w:Int) (b m:Nat) (h:b+m≤900):Along w m fun k v s=>k≤m∧TkG (b+k) v∧SgG s where
 good:=fun ⟨h1,h2,h3⟩=>⟨h2.mono (by omega),h3⟩
 step:=fun {k v s} hk ⟨h1,h2,h3⟩ hb hm hw hp=>by
  obtain ⟨e,_⟩:=able_eq v w s h3.cl
  obtain ⟨_,h4,h5,_⟩:=step_eq v w s (n:=b+k) (by omega) h2 h3 (e.trans (by rw [hb])) hm hw hp
  exact ⟨by omega,h4,h5⟩
def stepsN (most:Int):Nat:=(if (10000:Int)<most then (10000:Int) else most).toNat
theorem snap_Run_eq {w:Int} {m:Nat} {I:Nat→P_1→P_2→Prop} (h:Along w m I) (v:P_1) (s:P_2) (most:Int) (hm:stepsN most≤m) (h0:I 0 v s) :
  F_0 (v,w,s,most,())=some ((runP (stepsN most) v w s).1,(runP (stepsN most) v w s).2,()):=by
 obtain ⟨hv,hs⟩:=h.good h0
 refine Tells.of_eq (Q:=fun _=>True) (Tells.of (R_R (v,w,s,most,())) ?_)
 refine Tells.xbe (copied_eq v (hv.cl (by decide))) ?_
 refine Tells.xbe (copiedSight_eq s hs.cl) ?_
 have hcap:(if (10000:Int)<most then (10000:Int) else most)≤10000:=by split <;> omega
 have hN:stepsN most≤10000:=by unfold stepsN;omega
 generalize hc:(if (10000:Int)<most then (10000:Int) else most)=c at hcap
 have hNc:stepsN most=c.toNat:=by unfold stepsN;rw [hc]
 generalize stepsN most=N at hm hN hNc
 refine Tells.xb (Tells.loop (Q:=fun r:(Unit×(((P_1×Unit)×((P_2×Unit)×((P_1×Unit)×((P_2×Unit)×Unit))))×Unit)) ⊕ Empty=>match r with | .inl y=>(y.2.1.1.1,y.2.1.2.1.1)=runP N v w s | .inr y=>False)
  (fun st=>∃(k:Nat) (v':P_1) (s':P_2),st.1.1=w∧st.1.2.1=c∧st.1.2.2.1=(k:Int)∧st.2.1.1.1=v'∧st.2.1.2.1.1=s'∧k≤N∧I k v' s'∧runP (N - k) v' w s'=runP N v w s)
  (fun st=>N - st.1.2.2.1.toNat) (fun st hst=>?_) ⟨0,v,s,rfl,?_,rfl,rfl,rfl,Nat.zero_le _,h0,rfl⟩ ?_) (fun y hy=>?_)
 ·obtain ⟨⟨w',c',k',u1⟩,⟨⟨v',u2⟩,⟨s',u3⟩,X⟩,u4⟩:=st
  obtain ⟨k,v'',s'',e1,e2,e3,e4,e5,hk,hI,hr⟩:=hst
  have e1:w'=w:=e1
  have e2:c'=c:=e2
  have e3:k'=(k:Int):=e3
  have e4:v'=v'':=e4
  have e5:s'=s'':=e5
  subst e1 e2 e3 e4 e5
  obtain ⟨gv,gs⟩:=h.good hI
  refine Tells.br (fun hl=>?_) (fun hl=>?_)
  ·have hl:(k:Int)<c':=of_decide_eq_true hl
   have hkN:k<N:=by omega
   obtain ⟨ea,hab⟩:=able_eq v' w' s' gs.cl
   obtain ⟨en,n1,n2,_⟩:=next_eq v' w' s' (n:=900) (by decide) gv gs
   refine Tells.xbe ea ?_
   refine Tells.br (fun hb=>⟨_,rfl,?_⟩) (fun hb=>?_)
   ·have hb:ableB v' w' s'=false:=by
     have hb:(!ableB v' w' s')=true:=hb
     cases hx:ableB v' w' s' with
     | false=>rfl
     | true=>rw [hx] at hb;cases hb
    show (v',s')=_
    rw [← hr];exact (runP_stay hb _).symm
   ·have hb:ableB v' w' s'=true:=not_f hb
    obtain ⟨h1,h2,h3⟩:=hab hb
    have e9:nextP v' w' s'=stepP v' w' s':=by unfold nextP;rw [hb];rfl
    rw [e9] at en
    refine Tells.xbe en (Tells.gd (inI_of (by show _≤(k:Int)+1;omega) (by show (k:Int)+1≤_;omega)) ⟨_,rfl,⟨k+1,_,_,rfl,rfl,by show (k:Int)+1=((k+1:Nat):Int);omega,rfl,rfl,hkN,h.step (by omega) hI hb h1 h2 h3,?_⟩,?_⟩)
    ·rw [← hr]
     have e10:N - k=(N - (k+1))+1:=by omega
     rw [e10]
     show _=(bif ableB v' w' s' then runP (N - (k+1)) (stepP v' w' s').1 w' (stepP v' w' s').2.1 else (v',s'))
     rw [hb];rfl
    ·show N - ((k:Int)+1).toNat<N - (k:Int).toNat
     omega
  ·have hl:¬ (k:Int)<c':=of_decide_eq_false hl
   have e9:N - k=0:=by omega
   rw [e9] at hr
   exact ⟨_,rfl,hr⟩
 ·rfl
 ·show N - (0:Int).toNat<xmany
  exact xmany_gt (by omega)
 ·match y,hy with
  | .inl y,hy=>
   have e1:y.2.1.1.1=(runP N v w s).1:=congrArg Prod.fst hy
   have e2:y.2.1.2.1.1=(runP N v w s).2:=congrArg Prod.snd hy
   refine ⟨_,rfl,?_⟩
   show (y.2.1.1.1,y.2.1.2.1)=_
   rw [← e1,← e2]
end Go.Proofs.YtdbjakibneeeiaaGreatDoor.Ex
