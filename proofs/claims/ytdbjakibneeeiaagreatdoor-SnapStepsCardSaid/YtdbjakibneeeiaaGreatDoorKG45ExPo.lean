/- Layer 18 (snap), the document's, purely: the same steps. -/
import Derived.Test.YtdbjakibneeeiaaGreatDoorKExPm
import Derived.Test.YtdbjakibneeeiaaGreatDoorKG43ExRd
set_option linter.all false
set_option maxHeartbeats 4000000
set_option maxRecDepth 100000
namespace Go.Proofs.YtdbjakibneeeiaaGreatDoor.Ex
open Go.RowKit Sx
def LX (L:List Int) (i:Int):F_12 (L,i,())=some (bT L i,()):=by
 refine (Uh (L,i,())).trans ?_
 unfold bT oS
 by_cases h1:0≤i
 ·refine (aZ (tF.2 h1)).trans ?_
  by_cases h2:i<(L.length:Int)
  ·refine (aZ (by show (decide (i<(L.length:Int))==true)=true;rw [decide_eq_true h2];rfl)).trans ?_
   refine (aT (bC.2 ⟨h1,h2⟩)).trans ((aT (decide_eq_true (by show i.toNat<L.length;omega))).trans ?_)
   rw [decide_eq_true h1,decide_eq_true h2];rfl
  ·refine (aN (by show (decide (i<(L.length:Int))==true)=false;rw [decide_eq_false h2];rfl)).trans ?_
   rw [decide_eq_false h2,Bool.and_false];rfl
 ·refine (aN (by show (decide (i≥0)==true)=false;rw [decide_eq_false h1];rfl)).trans ?_
  rw [decide_eq_false h1];rfl
def B8 {n m c:Nat} (h:n+m≤1000001) (hc:c≤1000):(Nat.ble (n+m) 9223372036854775807&&Nat.ble ((n+m)*c) 140737488355328)=true:=by
 rw [Bool.and_eq_true,Nat.ble_eq,Nat.ble_eq]
 have:(n+m)*c≤1000001*1000:=Nat.mul_le_mul h hc
 omega
def K9 (L:List Int) (i w:Int) (h:bT L i=true) (hw:1≤w) (hL:L.length≤1000000):FE (L,i,w,())=some (L.set i.toNat w,(0:Int),()):=by
 obtain ⟨hh,hz⟩:=Bool.and_eq_true_iff.1 h
 obtain ⟨h1,h2⟩:=dA.1 hh
 have hz:L.getD i.toNat 0=0:=eq_of_beq hz
 have hn:i.toNat<L.length:=by omega
 refine (SX (L,i,w,())).trans ?_
 refine (aZ (iI.2 h1)).trans ((aZ (Ii.2 h2)).trans ((aN (j_lt.2 hw)).trans ?_))
 refine (aT (bC.2 ⟨h1,h2⟩)).trans ((aT (decide_eq_true hn)).trans ((aN (xx.2 hz)).trans ?_))
 exact (aT (B8 (by show 0+L.length≤1000001;omega) (by decide))).trans ((aT (bC.2 ⟨h1,h2⟩)).trans (aT (decide_eq_true hn)))
def LF (L:List Int) (i w:Int) (h1:0≤i) (h2:i<(L.length:Int)) (h:aM L i w=true) (hL:L.length≤1000000):FX (L,i,w,())=some (L.set i.toNat 0,(0:Int),()):=by
 obtain ⟨hw,hz⟩:=Bool.and_eq_true_iff.1 h
 have hw:1≤w:=of_decide_eq_true hw
 have hz:L.getD i.toNat 0=w:=eq_of_beq hz
 have hn:i.toNat<L.length:=by omega
 refine (Ut (L,i,w,())).trans ?_
 refine (aZ (iI.2 h1)).trans ((aZ (Ii.2 h2)).trans ((aN (j_lt.2 hw)).trans ?_))
 refine (aT (bC.2 ⟨h1,h2⟩)).trans ((aT (decide_eq_true hn)).trans ((aN (xx.2 hz)).trans ?_))
 exact (aT (B8 (by show 0+L.length≤1000001;omega) (by decide))).trans ((aT (bC.2 ⟨h1,h2⟩)).trans (aT (decide_eq_true hn)))
def LR (L:List Int) (w:Int) (hL:L.length≤1000000):aa (F_13 (L,w,())) fun r:List Int×Unit=>List.length r.1≤L.length∧(List.length r.1=L.length↔∀k,k<L.length→aM L (k:Int) w=true):=by
 refine aa.of (UT (L,w,())) ?_
 refine aa.xb (aa.cnt (Q:=fun r:(Unit×(Unit×((List Int)×Unit))) ⊕ Empty=>match r with | .inl y=>List.length y.2.2.1≤L.length∧(List.length y.2.2.1=L.length↔∀k,k<L.length→aM L (k:Int) w=true) | .inr _=>False)
  (fun k st=>∃A:List Int,st=((L,w,(k:Int),()),(),A,())∧A.length≤k∧(A.length=k↔∀j,j<k→aM L (j:Int) w=true)) L.length (by omega) (fun k st hk hI=>?_) (fun st hI=>?_) ⟨[],rfl,Nat.le_refl _,⟨fun _ j hj=>absurd hj (Nat.not_lt_zero _),fun _=>rfl⟩⟩) (fun y hy=>?_)
 ·obtain ⟨A,rfl,hA,hi⟩:=hI
  have ek:L.getD (Int.toNat (k:Int)) 0=L.getD k 0:=by rw [Int.toNat_natCast]
  have hh:aM L (k:Int) w=(decide (w≥1)&&(L.getD k 0==w)):=by unfold aM;rw [Int.toNat_natCast]
  have step:∀j,j<k+1→j<k∨j=k:=fun j h=>by omega
  refine aa.br (fun _=>?_) (fun h=>absurd (cr hk) (by rw [h];simp))
  refine aa.br (fun hw=>?_) (fun hw=>?_)
  ·have hw1:decide (w≥1)=true:=eq_of_beq hw
   clear hw
   refine aa.gd (b9 hk) (aa.gd (bf hk) ?_)
   refine aa.br (fun he=>?_) (fun he=>?_)
   ·have he:(L.getD k 0==w)=true:=by rw [← ek];exact he
    refine aa.gd (B8 (by show A.length+1≤_;omega) (by decide)) (aa.gd (aU hk (by omega)) ⟨_,rfl,A++[(k:Int)],rfl,?_,?_⟩)
    ·rw [List.length_append];simp only [List.length_singleton];omega
    ·rw [List.length_append]
     simp only [List.length_singleton]
     constructor
     ·intro h j hj
      rcases step j hj with h2 | h2
      ·exact hi.1 (by omega) j h2
      ·rw [h2,hh,hw1,he];rfl
     ·intro h
      have:=hi.2 fun j hj=>h j (by omega)
      omega
   ·have he:(L.getD k 0==w)=false:=by rw [← ek];exact he
    refine aa.gd (aU hk (by omega)) ⟨_,rfl,A,rfl,by omega,⟨fun h=>by omega,fun h=>?_⟩⟩
    have:=h k (Nat.lt_succ_self k)
    rw [hh,he,Bool.and_false] at this;cases this
  ·have hw:decide (w≥1)=false:=by
    cases hx:decide (w≥1) with
    | false=>rfl
    | true=>have hw:(decide (w≥1)==true)=false:=hw;rw [hx] at hw;cases hw
   refine aa.gd (aU hk (by omega)) ⟨_,rfl,A,rfl,by omega,⟨fun h=>by omega,fun h=>?_⟩⟩
   have:=h k (Nat.lt_succ_self k)
   rw [hh,hw,Bool.false_and] at this;cases this
 ·obtain ⟨A,rfl,hA,hi⟩:=hI
  exact aa.br (fun h=>absurd cq (by rw [h];simp)) (fun _=>⟨_,rfl,hA,hi⟩)
 ·match y,hy with
  | .inl y,hy=>exact ⟨_,rfl,hy⟩
def KT (v:cU) (w:Int) (s:P_2) (h:uP s):Says (F_10 (v,w,s,())) (1≤w∧IM s∧bG v w s):=by
 refine aa.of (TY (v,w,s,())) ?_
 refine Says.iG iI fun hw=>?_
 refine Says.xb (OD s h) fun b hb=>?_
 refine Says.GC (OR hb) fun hS=>?_
 have no:∀{P:Prop},¬ P→Says (some (false,())) P:=fun h=>Says.no h
 have lo:∀{ph:Int},ph=0∨ph=1∨ph=2→v.2.1=ph→(bG v w s↔(0≤v.2.2.1∧v.2.2.1<(List.length s.2.1:Int))):=by
  intro ph hph hv
  unfold bG
  constructor
  ·rintro (⟨_,h⟩ | ⟨_,h⟩ | ⟨_,h⟩ | ⟨h,_⟩ | ⟨h,_⟩ | ⟨h,_⟩)
   ·exact h
   ·exact h
   ·exact h
   all_goals (exfalso;omega)
  ·intro h
   rcases hph with rfl | rfl | rfl
   ·exact .inl ⟨hv,h⟩
   ·exact .inr (.inl ⟨hv,h⟩)
   ·exact .inr (.inr (.inl ⟨hv,h⟩))
 have p3:v.2.1=3→(bG v w s↔bT s.2.1 v.2.2.1=true):=by
  intro p
  unfold bG
  constructor
  ·rintro (⟨h,_⟩ | ⟨h,_⟩ | ⟨h,_⟩ | ⟨_,h⟩ | ⟨h,_⟩ | ⟨h,_⟩)
   any_goals (exfalso;omega)
   exact h
  ·intro h;exact .inr (.inr (.inr (.inl ⟨p,h⟩)))
 have p4:v.2.1=4→(bG v w s↔∀k,k<List.length s.2.1→aM s.2.1 (k:Int) w=true):=by
  intro p
  unfold bG
  constructor
  ·rintro (⟨h,_⟩ | ⟨h,_⟩ | ⟨h,_⟩ | ⟨h,_⟩ | ⟨_,h⟩ | ⟨h,_⟩)
   any_goals (exfalso;omega)
   exact h
  ·intro h;exact .inr (.inr (.inr (.inr (.inl ⟨p,h⟩))))
 have p5:v.2.1=5→(bG v w s↔((0≤v.2.2.1∧v.2.2.1<(List.length s.2.1:Int))∧aM s.2.1 v.2.2.1 w=true)):=by
  intro p
  unfold bG
  constructor
  ·rintro (⟨h,_⟩ | ⟨h,_⟩ | ⟨h,_⟩ | ⟨h,_⟩ | ⟨h,_⟩ | ⟨_,h,h2⟩)
   any_goals (exfalso;omega)
   exact ⟨h,h2⟩
  ·intro h;exact .inr (.inr (.inr (.inr (.inr ⟨p,h.1,h.2⟩))))
 have pn:v.2.1≠0→v.2.1≠1→v.2.1≠2→v.2.1≠3→v.2.1≠4→v.2.1≠5→¬ bG v w s:=by
  intro a b c d e f
  unfold bG
  rintro (⟨h,_⟩ | ⟨h,_⟩ | ⟨h,_⟩ | ⟨h,_⟩ | ⟨h,_⟩ | ⟨h,_⟩) <;> (exfalso;omega)
 have held:v.2.1=4→Says (xb (F_13 (s.2.1,w,())) fun y2:List Int×Unit=>some (((((List.length y2.1):Nat):Int)==(((List.length s.2.1):Nat):Int)),())) (bG v w s):=fun p=>by
  refine aa.xb (LR s.2.1 w h.1) fun y hy=>⟨_,rfl,?_⟩
  obtain ⟨l,u⟩:=y
  have hy2:l.length=List.length s.2.1↔∀k,k<List.length s.2.1→aM s.2.1 (k:Int) w=true:=hy.2
  rw [p4 p,← hy2]
  show (((l.length:Nat):Int)==((List.length s.2.1:Nat):Int))=true↔_
  rw [beq_iff_eq];omega
 have free:v.2.1=3→Says (xb (F_12 (s.2.1,v.2.2.1,())) fun y:Bool×Unit=>some y) (bG v w s):=fun p=>by
  refine aa.gj (LX _ _) ⟨_,rfl,?_⟩
  rw [p3 p]
 refine aa.br (fun ha=>?_) (fun ha=>?_)
 ·have ha:0≤v.2.2.1:=tF.1 ha
  have lo':∀{ph:Int},ph=0∨ph=1∨ph=2→v.2.1=ph→Says (some (decide (v.2.2.1<((List.length s.2.1:Nat):Int)),())) (bG v w s):=fun h1 h2=>Says.of (by rw [lo h1 h2,decide_eq_true_iff];exact ⟨fun k=>⟨ha,k⟩,And.right⟩)
  refine aa.br (fun p=>lo' (ph:=0) (by simp) (eq_of_beq (α:=Int) p)) (fun q0=>?_)
  refine aa.br (fun p=>lo' (ph:=1) (by simp) (eq_of_beq (α:=Int) p)) (fun q1=>?_)
  refine aa.br (fun p=>lo' (ph:=2) (by simp) (eq_of_beq (α:=Int) p)) (fun q2=>?_)
  refine aa.br (fun p=>free (eq_of_beq (α:=Int) p)) (fun q3=>?_)
  refine aa.br (fun p=>held (eq_of_beq (α:=Int) p)) (fun q4=>?_)
  refine aa.br (fun p=>?_) (fun q5=>no (pn (ne_of_beq_false (α:=Int) q0) (ne_of_beq_false (α:=Int) q1) (ne_of_beq_false (α:=Int) q2) (ne_of_beq_false (α:=Int) q3) (ne_of_beq_false (α:=Int) q4) (ne_of_beq_false (α:=Int) q5)))
  have p:v.2.1=5:=eq_of_beq (α:=Int) p
  refine aa.br (fun hl=>?_) (fun hl=>no fun k=>?_)
  ·have hl:v.2.2.1<(List.length s.2.1:Int):=of_decide_eq_true (eq_of_beq hl)
   refine aa.gd (bC.2 ⟨ha,hl⟩) (aa.gd (decide_eq_true (by show v.2.2.1.toNat<List.length s.2.1;omega)) (Says.of ?_))
   rw [p5 p]
   unfold aM
   rw [decide_eq_true (show w≥1 by exact hw),Bool.true_and]
   exact ⟨fun k=>⟨⟨ha,hl⟩,k⟩,And.right⟩
  ·have hl:(decide (v.2.2.1<(List.length s.2.1:Int))==true)=false:=hl
   rw [decide_eq_true ((p5 p).1 k).1.2] at hl;cases hl
 ·have ha:¬ 0≤v.2.2.1:=fun c=>by
   have ha:(decide (v.2.2.1≥0)==true)=false:=ha
   rw [decide_eq_true c] at ha;cases ha
  refine aa.br (fun p=>no fun k=>ha ((lo (ph:=0) (by simp) (eq_of_beq (α:=Int) p)).1 k).1) (fun q0=>?_)
  refine aa.br (fun p=>no fun k=>ha ((lo (ph:=1) (by simp) (eq_of_beq (α:=Int) p)).1 k).1) (fun q1=>?_)
  refine aa.br (fun p=>no fun k=>ha ((lo (ph:=2) (by simp) (eq_of_beq (α:=Int) p)).1 k).1) (fun q2=>?_)
  refine aa.br (fun p=>free (eq_of_beq (α:=Int) p)) (fun q3=>?_)
  refine aa.br (fun p=>held (eq_of_beq (α:=Int) p)) (fun q4=>?_)
  exact aa.br (fun p=>no fun k=>ha ((p5 (eq_of_beq (α:=Int) p)).1 k).1.1) (fun q5=>no (pn (ne_of_beq_false (α:=Int) q0) (ne_of_beq_false (α:=Int) q1) (ne_of_beq_false (α:=Int) q2) (ne_of_beq_false (α:=Int) q3) (ne_of_beq_false (α:=Int) q4) (ne_of_beq_false (α:=Int) q5)))
def qw (v:cU) (w:Int) (s:P_2) (h:uP s):F_10 (v,w,s,())=some (de v w s,()):=by
 obtain ⟨⟨b,u⟩,e,hb⟩:=KT v w s h
 obtain ⟨m,em,_,⟨⟨c,u2⟩,e2,hc⟩⟩:=ue v w s h
 obtain ⟨⟨m',u3⟩,em',hm'⟩:=IE s h
 have e3:m=m':=by rw [em] at em';exact congrArg (fun o=>match o with | some x=>x.1 | none=>false) em'
 have hm:m=true↔IM s:=by rw [e3];exact hm'
 have e4:de v w s=c:=by unfold de;rw [e2];rfl
 rw [e4]
 have hbc:b=c:=by
  have hb:b=true↔(1≤w∧IM s∧bG v w s):=hb
  have hc:c=true↔(1≤w∧m=true∧bG v w s):=hc
  rw [hm,← hb] at hc
  cases b <;> cases c <;> simp_all
 rw [← hbc];exact e
end Go.Proofs.YtdbjakibneeeiaaGreatDoor.Ex
namespace Go.Proofs.YtdbjakibneeeiaaGreatDoor.Ex
open Go.RowKit Sx
def Lr (a:dc):Int:=a.1
def gq (a:dc) (l:List dc):List dc:=ax.ins Lr a l
def EB (a:dc):gq a []=[a]:=rfl
def Dq (a y:dc) (l:List dc):gq a (y::l)=if a.1<y.1 then a::y::l else y::gq a l:=rfl
def Ea (a:dc) (l:List dc):(gq a l).length=l.length+1:=(ax.uq Lr a l).length_eq
def drop_cons {A:Type} {L:List A} {d:A} {k:Nat} (h:k<L.length):L.drop k=L.getD k d::L.drop (k+1):=by
 rw [bE h];exact List.drop_eq_getElem_cons h
def put_eq (l:List dc) (a:dc) (hl:l.length≤100000):F_11 (l,a,())=some (gq a l,()):=by
 refine aa.of_eq (Q:=fun _=>True) (aa.of (RA (l,a,())) ?_)
 refine aa.xb (aa.cnt (Q:=fun r:((Bool×Unit)×(((dc×Unit)×Unit)×(List dc×Unit))) ⊕ Empty=>match r with | .inl y=>∃(b:Bool) (out:List dc),y=((b,()),((a,()),()),out,())∧(if b=true then out=gq a l else out=l∧gq a l=l++[a]) | .inr _=>False)
  (fun k st=>∃(b:Bool) (out:List dc),st=((l,b,(k:Int),()),((a,()),()),out,())∧out.length≤k+1∧(if b=true then out++l.drop k=gq a l else out=l.take k∧out++gq a (l.drop k)=gq a l)) l.length (by omega) (fun k st hk hI=>?_) (fun st hI=>?_) ⟨false,[],rfl,Nat.zero_le _,rfl,rfl⟩) (fun y hy=>?_)
 ·obtain ⟨b,out,rfl,ho,hI⟩:=hI
  have ek:l.getD (Int.toNat (k:Int)) cI=l.getD k cI:=by rw [Int.toNat_natCast]
  have hd:l.drop k=l.getD k cI::l.drop (k+1):=drop_cons hk
  have bl:∀(o:List dc),o.length≤k+2→(Nat.ble (o.length+1) 9223372036854775807&&Nat.ble ((o.length+1)*40) 140737488355328)=true:=fun o h=>B8 (by omega) (by decide)
  refine aa.br (fun _=>?_) (fun h=>absurd (cr hk) (by rw [h];simp))
  cases b with
  | false=>
   obtain ⟨h1,h2⟩:out=l.take k∧out++gq a (l.drop k)=gq a l:=by simpa using hI
   rw [hd,Dq] at h2
   have hol:out.length=k:=by rw [h1,List.length_take];omega
   refine aa.br (fun _=>?_) (fun h=>by cases h)
   refine aa.gd (b9 hk) (aa.gd (bf hk) (aa.br (fun hlt=>?_) (fun hlt=>?_)))
   ·have hlt:a.1<(l.getD k cI).1:=by rw [← ek];exact of_decide_eq_true hlt
    rw [if_pos hlt] at h2
    refine aa.gd (bl out (by omega)) (aa.gd (b9 hk) (aa.gd (bf hk) (aa.gd (bl (out++[a]) (by rw [List.length_append];simp only [List.length_singleton];omega)) (aa.gd (aU hk (by omega)) ⟨_,rfl,true,(out++[a])++[l.getD k cI],?_,?_,?_⟩))))
    ·show ((l,true,(k:Int)+1,()),((a,()),()),(out++[a])++[l.getD (Int.toNat (k:Int)) cI],())=_
     rw [ek];rfl
    ·rw [List.length_append,List.length_append];simp only [List.length_singleton];omega
    ·rw [if_pos rfl,← h2]
     simp only [List.append_assoc,List.cons_append,List.nil_append]
   ·have hlt:¬ a.1<(l.getD k cI).1:=by rw [← ek];exact of_decide_eq_false hlt
    rw [if_neg hlt] at h2
    refine aa.gd (b9 hk) (aa.gd (bf hk) (aa.gd (bl out (by omega)) (aa.gd (aU hk (by omega)) ⟨_,rfl,false,out++[l.getD k cI],?_,?_,?_⟩)))
    ·show ((l,false,(k:Int)+1,()),((a,()),()),out++[l.getD (Int.toNat (k:Int)) cI],())=_
     rw [ek];rfl
    ·rw [List.length_append];simp only [List.length_singleton];omega
    ·rw [if_neg (by decide)]
     refine ⟨?_,?_⟩
     ·rw [List.take_succ_eq_append_getElem hk,← h1,bE hk]
     ·rw [← h2];simp only [List.append_assoc,List.cons_append,List.nil_append]
  | true=>
   have h2:out++l.drop k=gq a l:=by simpa using hI
   rw [hd] at h2
   refine aa.br (fun h=>by cases h) (fun _=>?_)
   refine aa.gd (b9 hk) (aa.gd (bf hk) (aa.gd (bl out (by omega)) (aa.gd (aU hk (by omega)) ⟨_,rfl,true,out++[l.getD k cI],?_,?_,?_⟩)))
   ·show ((l,true,(k:Int)+1,()),((a,()),()),out++[l.getD (Int.toNat (k:Int)) cI],())=_
    rw [ek];rfl
   ·rw [List.length_append];simp only [List.length_singleton];omega
   ·rw [if_pos rfl,← h2]
    simp only [List.append_assoc,List.cons_append,List.nil_append]
 ·obtain ⟨b,out,rfl,ho,hI⟩:=hI
  refine aa.br (fun h=>absurd cq (by rw [h];simp)) (fun _=>⟨_,rfl,b,out,rfl,?_⟩)
  cases b with
  | false=>
   obtain ⟨h1,h2⟩:out=l.take l.length∧out++gq a (l.drop l.length)=gq a l:=by simpa using hI
   rw [List.take_length] at h1
   rw [List.drop_length,EB,h1] at h2
   rw [if_neg (by decide)]
   exact ⟨h1,h2.symm⟩
  | true=>
   have h2:out++l.drop l.length=gq a l:=by simpa using hI
   rw [List.drop_length,List.append_nil] at h2
   rw [if_pos rfl];exact h2
 ·match y,hy with
  | .inl y,⟨b,out,e,hb⟩=>
   subst e
   cases b with
   | false=>
    obtain ⟨h1,h2⟩:out=l∧gq a l=l++[a]:=by simpa using hb
    subst h1
    show aa (gd (Nat.ble (out.length+1) 9223372036854775807&&Nat.ble ((out.length+1)*40) 140737488355328) (some (out++[a],()))) _
    refine aa.gd (B8 (by omega) (by decide)) ⟨_,rfl,?_⟩
    rw [h2]
   | true=>
    have h1:out=gq a l:=by simpa using hb
    subst h1
    exact ⟨_,rfl,rfl⟩
def rV (M:List dc):List dc:=M.foldl (fun acc x=>gq x acc) []
def FB (L:List cQ):dQ L=rV (gw L):=by
 unfold dQ kY
 rw [ax.Co (fun p:ax.PA=>p.1) Lr nt (fun _=>rfl),List.map_map]
 have:(nt∘s4)=id:=funext zm
 rw [this,List.map_id];rfl
def uX (M:List dc):∀acc:List dc,(M.foldl (fun acc x=>gq x acc) acc).length=acc.length+M.length:=by
 induction M with
 | nil=>intro acc;rfl
 | cons x M ih=>intro acc;rw [List.foldl_cons,ih,Ea,List.length_cons];omega
def CQ {L:List cQ} {k:Nat} (hk:k<L.length):gw (L.take (k+1))=gw (L.take k)++gp (L.getD k fJ):=by
 unfold gw
 rw [List.take_succ_eq_append_getElem hk,List.flatMap_append,List.flatMap_singleton,bE hk]
def Fz {n:Nat} (L:List cQ) (h:lX n L) (hn:n≤1000):F_15 (L,())=some (dQ L,()):=by
 rw [FB]
 have hL9:L.length≤9223372036854775807:=Nat.le_trans h.1 (Nat.le_trans hn (by decide))
 refine aa.of_eq (Q:=fun _=>True) (aa.of (Uv (L,())) ?_)
 have hL:=h.1
 have hlen:∀k,(gw (L.take k)).length≤20000:=fun k=>by
  have h1:=nW (n:=20) (L:=L.take k) fun c hc=>(h.2 c (List.mem_of_mem_take hc)).1
  have h2:(L.take k).length≤L.length:=by rw [List.length_take];omega
  omega
 refine aa.xb (aa.cnt (Q:=fun r:(((List dc)×Unit)×(Unit×Unit)) ⊕ Empty=>match r with | .inl y=>y.1.1=rV (gw L) | .inr _=>False) (fun k st=>∃J:List dc,J=rV (gw (L.take k))∧st=((L,J,(k:Int),()),(),())) L.length (by omega) (fun k st hk hI=>?_) (fun st hI=>?_) ⟨[],rfl,rfl⟩) (fun y hy=>?_)
 ·obtain ⟨J,hJ,rfl⟩:=hI
  have ek:L.getD (Int.toNat (k:Int)) fJ=L.getD k fJ:=by rw [Int.toNat_natCast]
  have hm:L.getD k fJ∈L:=by rw [bE hk];exact List.getElem_mem hk
  have hc:(gp (L.getD k fJ)).length≤20:=(h.2 _ hm).1
  refine aa.br (fun _=>?_) (fun h=>absurd (cr hk) (by rw [h];simp))
  refine aa.xb (aa.idx (Q:=fun r:(((List cQ)×((List dc)×(Int×Unit)))×(Unit×Unit)) ⊕ Empty=>match r with | .inl y=>∃J':List dc,J'=rV (gw (L.take (k+1)))∧y=((L,J',(k:Int),()),(),()) | .inr _=>False) (fun i=>((L,((gp (L.getD k fJ)).take i).foldl (fun acc x=>gq x acc) J,(k:Int),(i:Int),()),(),())) (fun _=>True) (gp (L.getD k fJ)).length (by omega) trivial (fun i hi _=>?_) (fun _=>?_) rfl) (fun z hz=>?_)
  ·have hi':i<List.length (L.getD (Int.toNat (k:Int)) fJ).1:=by rw [ek];exact hi
   refine aa.gd (b9 hk) (aa.gd (bf hk) (aa.br (fun _=>?_) (fun h=>absurd (cr hi') (by rw [h];simp))))
   refine aa.gd (b9 hk) (aa.gd (bf hk) (aa.gd (b9 hi') (aa.gd (bf hi') ?_)))
   have ea:List.getD (L.getD (Int.toNat (k:Int)) fJ).1 (Int.toNat (i:Int)) cI=(gp (L.getD k fJ)).getD i cI:=by rw [ek,Int.toNat_natCast];rfl
   have hb:(((gp (L.getD k fJ)).take i).foldl (fun acc x=>gq x acc) J).length≤100000:=by
    have h1:=hlen k
    have h2:J.length=(gw (L.take k)).length:=by rw [hJ];unfold rV;rw [uX];simp
    rw [uX,List.length_take]
    omega
   have ep:F_11 (((gp (L.getD k fJ)).take i).foldl (fun acc x=>gq x acc) J,List.getD (L.getD (Int.toNat (k:Int)) fJ).1 (Int.toNat (i:Int)) cI,())=some (gq ((gp (L.getD k fJ)).getD i cI) (((gp (L.getD k fJ)).take i).foldl (fun acc x=>gq x acc) J),()):=
    (congrArg (fun t:dc=>F_11 (((gp (L.getD k fJ)).take i).foldl (fun acc x=>gq x acc) J,t,())) ea).trans (put_eq _ _ hb)
   refine aa.gj ep (aa.gd (aU hi (by omega)) ⟨_,rfl,?_,trivial⟩)
   rw [List.take_succ_eq_append_getElem hi,List.foldl_append,← bE (d:=cI) hi];rfl
  ·have e0:decide ((((gp (L.getD k fJ)).length:Nat):Int)<((List.length (L.getD (Int.toNat (k:Int)) fJ).1:Nat):Int))=false:=by rw [ek];exact cq
   refine aa.gd (b9 hk) (aa.gd (bf hk) (aa.br (fun h=>absurd e0 (by rw [h];simp)) (fun _=>⟨_,rfl,_,?_,rfl⟩)))
   rw [List.take_length,CQ hk,hJ]
   unfold rV
   rw [List.foldl_append]
  ·match z,hz with
   | .inl z,⟨J',h1,e⟩=>
    subst e
    refine aa.of Jy ?_
    refine aa.gd (aU hk hL9) ?_
    exact ⟨_,rfl,J',h1,rfl⟩
 ·obtain ⟨J,hJ,rfl⟩:=hI
  refine aa.br (fun h=>absurd cq (by rw [h];simp)) (fun _=>⟨_,rfl,?_⟩)
  show J=_
  rw [hJ,List.take_length]
 ·match y,hy with
  | .inl ((y,u1),u2),e=>
   have e:y=rV (gw L):=e
   subst e
   exact ⟨_,rfl,rfl⟩
def uw {n:Nat} {L:List cQ} (g:Int) (h:lX n L) (hn:n≤1000) (hg:dx g=true):F_14 (dQ L,g,())=some (CE (kY L) g,()):=by
 have e:F_14 (dQ L,g,())=J8 (dQ L,g,()):=by unfold F_14 J8;rfl
 rw [e];exact qA g h hn hg
def xk (v:cU):zM (v,())=some (dn v,()):=by
 refine (QJ (v,())).trans ?_
 unfold dn
 by_cases h:IntKind.wrap IntKind.i64 (v.2.2.2.1+(1:Int))<2
 ·refine (aZ (decide_eq_true h)).trans ?_
  rw [decide_eq_false (show ¬ IntKind.wrap IntKind.i64 (v.2.2.2.1+(1:Int))≥2 by omega)];rfl
 ·refine (aN (decide_eq_false h)).trans ?_
  rw [decide_eq_true (show IntKind.wrap IntKind.i64 (v.2.2.2.1+(1:Int))≥2 by omega)];rfl
def F6 (v:cU) (s:P_2) (hn:(List.length s.2.1:Int)=s.1.1) (h1:dx (v.2.2.1+(1:Int))=true) (h2:dx (v.2.1+(1:Int))=true):wI (v,s,())=some (cm v s.1.1,()):=by
 refine (Uu (v,s,())).trans ?_
 refine (aT h1).trans ?_
 unfold cm
 rw [← hn]
 cases h:(v.2.2.1+1==((List.length s.2.1:Nat):Int)) with
 | false=>exact (aN rfl)
 | true=>exact (aZ rfl).trans (aT h2)
def GF {n:Nat} (v:cU) (s:P_2) (hn:n≤1000) (hv:kL n v) (hs:xW s) (hm:qP s) (hp:v.2.1=2) (h1:0≤v.2.2.1) (h2:v.2.2.1<(List.length s.2.1:Int)):F_16 (v,s,())=some (kE v s,()):=by
 have hl:=hm.2.1
 have hk:v.2.2.1.toNat<List.length s.2.1:=by omega
 have hk2:v.2.2.1.toNat<List.length s.2.2.2.1:=by omega
 have hs2:=hs.1
 have hfree:bT s.2.1 v.2.2.1=(List.getD s.2.1 v.2.2.1.toNat (0:Int)==0):=by
  unfold bT;rw [dA.2 ⟨h1,h2⟩,Bool.true_and]
 refine (Tt (v,s,())).trans ?_
 refine (aT (bC.2 ⟨h1,h2⟩)).trans ((aT (decide_eq_true hk)).trans ?_)
 unfold kE nJ
 rw [hfree]
 by_cases c:List.getD s.2.1 v.2.2.1.toNat (0:Int)=0
 ·refine (aZ (ri.2 c)).trans ?_
  rw [c,beq_self_eq_true,Bool.true_and]
  by_cases c2:v.2.2.1<(List.length v.2.2.2.2.1:Int)
  ·refine (aN (j_ge_no c2)).trans ?_
   rw [decide_eq_true c2,Bool.true_and]
   have hk3:v.2.2.1.toNat<List.length v.2.2.2.2.1:=by omega
   refine (aT (bC.2 ⟨h1,c2⟩)).trans ((aT (decide_eq_true hk3)).trans ((aT (bC.2 ⟨h1,by show v.2.2.1<(List.length s.2.2.2.1:Int);omega⟩)).trans ((aT (decide_eq_true hk2)).trans ?_)))
   by_cases c3:List.getD v.2.2.2.2.1 v.2.2.1.toNat (0:Int)=(gl s v.2.2.1).2.1
   ·refine (aN (xx.2 c3)).trans ?_
    rw [c3,beq_self_eq_true]
    refine (aY (F6 v s hm.1 (bS (by omega) (by omega)) (bS (by omega) (by omega)))).trans ?_
    have hg:=hv.on s.1.1
    have hph:(cm v s.1.1).2.1=2∨(cm v s.1.1).2.1=3:=by
     rcases g9 v s.1.1 with ⟨_,e⟩ | ⟨_,e⟩ <;> rw [e]
     ·exact .inr (by show v.2.1+1=3;omega)
     ·exact .inl hp
    show az ((cm v s.1.1).2.1==(3:Int)) _ _=some (fT (cm v s.1.1),())
    generalize cm v s.1.1=u at hg hph ⊢
    unfold fT
    rcases hph with e | e
    ·rw [e];refine (aN (by decide)).trans rfl
    ·rw [e]
     refine (aZ (by decide)).trans ?_
     refine (aY (Fz _ hg.2.1 hn)).trans ?_
     exact (aY (uw u.1 hg.2.1 hn hg.2.2.2))
   ·refine (aZ (b_ne c3)).trans ?_
    rw [beq_false_of_ne c3]
    exact aY (xk v)
  ·refine (aZ (decide_eq_true (by show v.2.2.1≥(List.length v.2.2.2.2.1:Int);omega))).trans ?_
   rw [decide_eq_false c2]
   exact aY (xk v)
 ·refine (aN (b_neF c)).trans ?_
  rw [beq_false_of_ne c]
  exact aY (xk v)
where
 j_ge_no {x y:Int} (h:x<y):decide (x≥y)=false:=decide_eq_false (by omega)
 b_ne {x y:Int} (h:x≠y):(x != y)=true:=by simp [h]
 b_neF {x y:Int} (h:x≠y):((x != y)==false)=false:=by simp [h]
def Fv {n:Nat} (v:cU) (w:Int) (s:P_2) (hn:n<1000) (hv:kL n v) (hs:xW s):F_17 (v,w,s,())=some (iY v w s):=by
 refine (SR (v,w,s,())).trans ?_
 refine (aY (qw v w s hs.cl)).trans ?_
 obtain ⟨ea,hab⟩:=kz v w s hs.cl
 unfold iY
 cases hb:de v w s with
 | false=>exact aZ rfl
 | true=>
  obtain ⟨hm,hw,hp⟩:=hab hb
  refine (aN rfl).trans ?_
  have hl:=hm.2.1
  have hs2:=hs.1
  have hn1:=hm.1
  have bl:∀(m c:Nat),m≤1000→c≤100→(Nat.ble (0+m) 9223372036854775807&&Nat.ble ((0+m)*c) 140737488355328)=true:=fun m c h1 h2=>B8 (by omega) (by omega)
  have bl1:∀(m c:Nat),m≤1000→c≤100→(Nat.ble (m+1) 9223372036854775807&&Nat.ble ((m+1)*c) 140737488355328)=true:=fun m c h1 h2=>B8 (by omega) (by omega)
  have ne:∀c:Int,v.2.1≠c→(v.2.1==c)=false:=fun c h=>beq_false_of_ne h
  have nat:∀{x y:Int},x≠y→(x==y)=false:=fun h=>beq_false_of_ne h
  have eq:∀{x y:Int},x=y→(x==y)=true:=fun h=>by rw [h];exact beq_self_eq_true _
  rcases hp with ⟨p,h1,h2⟩ | ⟨p,h1,h2⟩ | ⟨p,h1,h2⟩ | ⟨p,h1⟩ | ⟨p,h1⟩ | ⟨p,⟨h1,h2⟩,h3⟩
  ·have e:aB v w s=(bif bT s.2.1 v.2.2.1 then cm (kM v ((v.2.2.2.2.1:List Int)++[(gl s v.2.2.1).2.1])) s.1.1 else dn v,s,0,()):=by unfold aB;rw [p];rfl
   show _=some (aB v w s)
   rw [e]
   have hk:v.2.2.1.toNat<List.length s.2.1:=by omega
   have hk2:v.2.2.1.toNat<List.length s.2.2.2.1:=by omega
   refine (aZ (eq p)).trans ((aT (bC.2 ⟨h1,h2⟩)).trans ((aT (decide_eq_true hk)).trans ?_))
   have hfree:bT s.2.1 v.2.2.1=(List.getD s.2.1 v.2.2.1.toNat (0:Int)==0):=by
    unfold bT;rw [dA.2 ⟨h1,h2⟩,Bool.true_and]
   rw [hfree]
   by_cases c:List.getD s.2.1 v.2.2.1.toNat (0:Int)=0
   ·refine (aN (xx.2 c)).trans ?_
    rw [c,beq_self_eq_true]
    have hvl:=hv.1
    refine (aT (bl (List.length v.2.2.2.2.1) 8 (by omega) (by decide))).trans ((aT (bC.2 ⟨h1,by show v.2.2.1<(List.length s.2.2.2.1:Int);omega⟩)).trans ((aT (decide_eq_true hk2)).trans ((aT (bl1 (List.length v.2.2.2.2.1) 8 (by omega) (by decide))).trans ?_)))
    exact (aY (F6 (kM v ((v.2.2.2.2.1:List Int)++[(gl s v.2.2.1).2.1])) s hn1 (bS (by show _≤v.2.2.1+1;omega) (by show v.2.2.1+1≤_;omega)) (bS (by show _≤v.2.1+1;omega) (by show v.2.1+1≤_;omega))))
   ·refine (aZ (by simpa using c)).trans ?_
    rw [beq_false_of_ne c]
    exact aY (xk v)
  ·have e:aB v w s=(cm (mP v ((v.2.2.2.2.2.1:List cQ)++[gl s v.2.2.1])) s.1.1,s,0,()):=by unfold aB;rw [p];rfl
   show _=some (aB v w s)
   rw [e]
   have hk2:v.2.2.1.toNat<List.length s.2.2.2.1:=by omega
   have hvl:=hv.2.1.1
   refine (aN (ne 0 (by omega))).trans ((aZ (eq p)).trans ?_)
   refine (aT (bl (List.length v.2.2.2.2.2.1) 32 (by omega) (by decide))).trans ((aT (bC.2 ⟨h1,by show v.2.2.1<(List.length s.2.2.2.1:Int);omega⟩)).trans ((aT (decide_eq_true hk2)).trans ((aT (bl1 (List.length v.2.2.2.2.2.1) 32 (by omega) (by decide))).trans ?_)))
   exact (aY (F6 (mP v ((v.2.2.2.2.2.1:List cQ)++[gl s v.2.2.1])) s hn1 (bS (by show _≤v.2.2.1+1;omega) (by show v.2.2.1+1≤_;omega)) (bS (by show _≤v.2.1+1;omega) (by show v.2.1+1≤_;omega))))
  ·have e:aB v w s=(kE v s,s,bif v.2.2.1==0 then 1 else 0,()):=by unfold aB;rw [p];rfl
   show _=some (aB v w s)
   rw [e]
   refine (aN (ne 0 (by omega))).trans ((aN (ne 1 (by omega))).trans ((aZ (eq p)).trans ?_))
   have ea:=GF v s (Nat.le_of_lt hn) hv hs hm p h1 h2
   by_cases c:v.2.2.1=0
   ·refine (aZ (eq c)).trans ?_
    rw [eq c]
    exact aY ea
   ·refine (aN (nat c)).trans ?_
    rw [nat c]
    exact aY ea
  ·have e:aB v w s=(cm v s.1.1,(s.1,List.set s.2.1 v.2.2.1.toNat w,s.2.2),0,()):=by unfold aB;rw [p];rfl
   show _=some (aB v w s)
   rw [e]
   obtain ⟨f1,f2⟩:=dA.1 (Bool.and_eq_true_iff.1 h1).1
   refine (aN (ne 0 (by omega))).trans ((aN (ne 1 (by omega))).trans ((aN (ne 2 (by omega))).trans ((aZ (eq p)).trans ?_)))
   refine (aY (K9 _ _ _ h1 hw (Nat.le_trans hs.1 (by decide)))).trans ?_
   exact aY (F6 v (s.1,List.set s.2.1 v.2.2.1.toNat w,s.2.2) (by show (List.length (List.set s.2.1 v.2.2.1.toNat w):Int)=s.1.1;rw [List.length_set];exact hn1) (bS (by omega) (by omega)) (bS (by omega) (by omega)))
  ·have e:aB v w s=((v.1,5,0,v.2.2.2.1,v.2.2.2.2.1,v.2.2.2.2.2.1,nD s.2.2.2.1 v.1,()),s,2,()):=by unfold aB;rw [p];rfl
   show _=some (aB v w s)
   rw [e]
   refine (aN (ne 0 (by omega))).trans ((aN (ne 1 (by omega))).trans ((aN (ne 2 (by omega))).trans ((aN (ne 3 (by omega))).trans ((aZ (eq p)).trans ?_))))
   refine (aY (Fz _ hs.2 (by decide))).trans ?_
   exact aY (uw v.1 hs.2 (by decide) hv.2.2.2)
  ·have e:aB v w s=(cm v s.1.1,(s.1,List.set s.2.1 v.2.2.1.toNat (0:Int),s.2.2),0,()):=by unfold aB;rw [p];rfl
   show _=some (aB v w s)
   rw [e]
   refine (aN (ne 0 (by omega))).trans ((aN (ne 1 (by omega))).trans ((aN (ne 2 (by omega))).trans ((aN (ne 3 (by omega))).trans ((aN (ne 4 (by omega))).trans ((aZ (eq p)).trans ?_)))))
   refine (aY (LF _ _ _ h1 h2 h3 (Nat.le_trans hs.1 (by decide)))).trans ?_
   exact aY (F6 v (s.1,List.set s.2.1 v.2.2.1.toNat (0:Int),s.2.2) (by show (List.length (List.set s.2.1 v.2.2.1.toNat (0:Int)):Int)=s.1.1;rw [List.length_set];exact hn1) (bS (by omega) (by omega)) (bS (by omega) (by omega)))
def OG {w:Int} {m:Nat} {I:Nat→cU→P_2→Prop} (h:A5 w m I) (v:cU) (s:P_2) (most:Int) (hm:cZ most≤m) (h0:I 0 v s) :
  E8 (v,w,s,most,())=some ((gF (cZ most) v w s).1,(gF (cZ most) v w s).2,()):=by
 refine aa.of_eq (Q:=fun _=>True) (aa.of (RZ (v,w,s,most,())) ?_)
 have hN:cZ most≤10000:=by unfold cZ;split <;> omega
 have hlt:∀k:Nat,k<cZ most↔((k:Int)<most∧(k:Int)<10000):=fun k=>by unfold cZ;split <;> omega
 generalize cZ most=N at hm hN hlt
 refine aa.xb (aa.loop (Q:=fun r:(Unit×(((cU×Unit)×((P_2×Unit)×((cU×Unit)×((P_2×Unit)×Unit))))×Unit)) ⊕ Empty=>match r with | .inl y=>(y.2.1.1.1,y.2.1.2.1.1)=gF N v w s | .inr y=>False)
  (fun st=>∃(k:Nat) (v':cU) (s':P_2),st.1.1=w∧st.1.2.1=most∧st.1.2.2.1=(k:Int)∧st.2.1.1.1=v'∧st.2.1.2.1.1=s'∧k≤N∧I k v' s'∧gF (N - k) v' w s'=gF N v w s)
  (fun st=>N - st.1.2.2.1.toNat) (fun st hst=>?_) ⟨0,v,s,rfl,rfl,rfl,rfl,rfl,Nat.zero_le _,h0,rfl⟩ ?_) (fun y hy=>?_)
 ·obtain ⟨⟨w',c',k',u1⟩,⟨⟨v',u2⟩,⟨s',u3⟩,X⟩,u4⟩:=st
  obtain ⟨k,v'',s'',e1,e2,e3,e4,e5,hk,hI,hr⟩:=hst
  have e1:w'=w:=e1
  have e2:c'=most:=e2
  have e3:k'=(k:Int):=e3
  have e4:v'=v'':=e4
  have e5:s'=s'':=e5
  subst e1 e2 e3 e4 e5
  obtain ⟨gv,gs⟩:=h.good hI
  have stop:¬ k<N→(v',s')=gF N v w' s:=fun hl=>by
   have e9:N - k=0:=by omega
   rw [e9] at hr;exact hr
  refine aa.br (fun hl=>?_) (fun hl=>⟨_,rfl,stop fun c=>?_⟩)
  ·have hl:(k:Int)<c':=of_decide_eq_true (eq_of_beq hl)
   refine aa.br (fun hl2=>?_) (fun hl2=>⟨_,rfl,stop fun c=>?_⟩)
   ·have hl2:(k:Int)<10000:=of_decide_eq_true (eq_of_beq hl2)
    have hkN:k<N:=(hlt k).2 ⟨hl,hl2⟩
    obtain ⟨ea,hab⟩:=kz v' w' s' gs.cl
    have en:=Fv v' w' s' (n:=900) (by decide) gv gs
    refine aa.gj (qw v' w' s' gs.cl) ?_
    refine aa.br (fun hb=>?_) (fun hb=>⟨_,rfl,?_⟩)
    ·have hb:de v' w' s'=true:=hb
     obtain ⟨h1,h2,h3⟩:=hab hb
     have e9:iY v' w' s'=aB v' w' s':=by unfold iY;rw [hb];rfl
     rw [e9] at en
     refine aa.gj en (aa.gd (bS (by show _≤(k:Int)+1;omega) (by show (k:Int)+1≤_;omega)) ⟨_,rfl,⟨k+1,_,_,rfl,rfl,by show (k:Int)+1=((k+1:Nat):Int);omega,rfl,rfl,hkN,h.step (by omega) hI hb h1 h2 h3,?_⟩,?_⟩)
     ·rw [← hr]
      have e10:N - k=(N - (k+1))+1:=by omega
      rw [e10]
      show _=(bif de v' w' s' then gF (N - (k+1)) (aB v' w' s').1 w' (aB v' w' s').2.1 else (v',s'))
      rw [hb];rfl
     ·show N - ((k:Int)+1).toNat<N - (k:Int).toNat
      omega
    ·have hb:de v' w' s'=false:=hb
     show (v',s')=_
     rw [← hr];exact (vh hb _).symm
   ·have:=((hlt k).1 c).2
    have hl2:(decide ((k:Int)<10000)==true)=false:=hl2
    rw [decide_eq_true this] at hl2;cases hl2
  ·have:=((hlt k).1 c).1
   have hl:(decide ((k:Int)<c')==true)=false:=hl
   rw [decide_eq_true this] at hl;cases hl
 ·show N - (0:Int).toNat<bn
  exact lg (by omega)
 ·match y,hy with
  | .inl y,hy=>
   have e1:y.2.1.1.1=(gF N v w s).1:=congrArg Prod.fst hy
   have e2:y.2.1.2.1.1=(gF N v w s).2:=congrArg Prod.snd hy
   refine ⟨_,rfl,?_⟩
   show (y.2.1.1.1,y.2.1.2.1)=_
   rw [← e1,← e2]
end Go.Proofs.YtdbjakibneeeiaaGreatDoor.Ex
