/- Layer 18 (snap), the document's, purely: the same steps. -/
import Derived.Test.YtdbjakibneeeiaaGreatDoorKExPm
import Derived.Test.YtdbjakibneeeiaaGreatDoorKG36ExPc
import Derived.Test.YtdbjakibneeeiaaGreatDoorKPoAll
import Derived.Test.YtdbjakibneeeiaaGreatDoorKG26ExO
import Derived.Test.YtdbjakibneeeiaaGreatDoorKTxnREnc
set_option linter.all false
set_option maxHeartbeats 40000000
set_option maxRecDepth 100000
noncomputable section
namespace Go.Proofs.YtdbjakibneeeiaaGreatDoor.Ex
open Go.RowKit Sx
def LX (L:List Int) (i:Int):F_12 (L,i,())=some (bT L i,()):=by
 refine (Uh (L,i,())).trans ?_
 unfold bT oS
 by_cases h1:0≤i
 ·refine (aZ (tF.2 h1)).trans ?_
  by_cases h2:i<(L.length:Int)
  ·refine (aZ (by show (decide (i<(L.length:Int))==true)=true;rw [decide_eq_true h2];rfl)).trans ?_
   refine (aT (bC.2 ⟨h1,h2⟩)).trans ((aT (decide_eq_true (by show i.toNat<L.length;omega))).trans ?_)
   rw [decide_eq_true h1,decide_eq_true h2];rfl
  ·refine (aN (by show (decide (i<(L.length:Int))==true)=false;rw [decide_eq_false h2];rfl)).trans ?_
   rw [decide_eq_false h2,Bool.and_false];rfl
 ·refine (aN (by show (decide (i≥0)==true)=false;rw [decide_eq_false h1];rfl)).trans ?_
  rw [decide_eq_false h1];rfl
def B8 {n m c:Nat} (h:n+m≤1000001) (hc:c≤1000):(Nat.ble (n+m) 9223372036854775807&&Nat.ble ((n+m)*c) 140737488355328)=true:=by
 rw [Bool.and_eq_true,Nat.ble_eq,Nat.ble_eq]
 have:(n+m)*c≤1000001*1000:=Nat.mul_le_mul h hc
 omega
def LR (L:List Int) (w:Int) (hL:L.length≤1000000):aa (F_13 (L,w,())) fun r:List Int×Unit=>List.length r.1≤L.length∧(List.length r.1=L.length↔∀k,k<L.length→aM L (k:Int) w=true):=by
 refine aa.of (UT (L,w,())) ?_
 refine aa.xb (aa.cnt (Q:=fun r:(Unit×(Unit×((List Int)×Unit))) ⊕ Empty=>match r with | .inl y=>List.length y.2.2.1≤L.length∧(List.length y.2.2.1=L.length↔∀k,k<L.length→aM L (k:Int) w=true) | .inr _=>False)
  (fun k st=>∃A:List Int,st=((L,w,(k:Int),()),(),A,())∧A.length≤k∧(A.length=k↔∀j,j<k→aM L (j:Int) w=true)) L.length (by omega) (fun k st hk hI=>?_) (fun st hI=>?_) ⟨[],rfl,Nat.le_refl _,⟨fun _ j hj=>absurd hj (Nat.not_lt_zero _),fun _=>rfl⟩⟩) (fun y hy=>?_)
 ·obtain ⟨A,rfl,hA,hi⟩:=hI
  have ek:L.getD (Int.toNat (k:Int)) 0=L.getD k 0:=by rw [Int.toNat_natCast]
  have hh:aM L (k:Int) w=(decide (w≥1)&&(L.getD k 0==w)):=by unfold aM;rw [Int.toNat_natCast]
  have step:∀j,j<k+1→j<k∨j=k:=fun j h=>by omega
  refine aa.br (fun _=>?_) (fun h=>absurd (cr hk) (by rw [h];simp))
  refine aa.br (fun hw=>?_) (fun hw=>?_)
  ·have hw1:decide (w≥1)=true:=eq_of_beq hw
   clear hw
   refine aa.gd (b9 hk) (aa.gd (bf hk) ?_)
   refine aa.br (fun he=>?_) (fun he=>?_)
   ·have he:(L.getD k 0==w)=true:=by rw [← ek];exact he
    refine aa.gd (B8 (by show A.length+1≤_;omega) (by decide)) (aa.gd (aU hk (by omega)) ⟨_,rfl,A++[(k:Int)],rfl,?_,?_⟩)
    ·rw [List.length_append];simp only [List.length_singleton];omega
    ·rw [List.length_append]
     simp only [List.length_singleton]
     constructor
     ·intro h j hj
      rcases step j hj with h2 | h2
      ·exact hi.1 (by omega) j h2
      ·rw [h2,hh,hw1,he];rfl
     ·intro h
      have:=hi.2 fun j hj=>h j (by omega)
      omega
   ·have he:(L.getD k 0==w)=false:=by rw [← ek];exact he
    refine aa.gd (aU hk (by omega)) ⟨_,rfl,A,rfl,by omega,⟨fun h=>by omega,fun h=>?_⟩⟩
    have:=h k (Nat.lt_succ_self k)
    rw [hh,he,Bool.and_false] at this;cases this
  ·have hw:decide (w≥1)=false:=by
    cases hx:decide (w≥1) with
    | false=>rfl
    | true=>have hw:(decide (w≥1)==true)=false:=hw;rw [hx] at hw;cases hw
   refine aa.gd (aU hk (by omega)) ⟨_,rfl,A,rfl,by omega,⟨fun h=>by omega,fun h=>?_⟩⟩
   have:=h k (Nat.lt_succ_self k)
   rw [hh,hw,Bool.false_and] at this;cases this
 ·obtain ⟨A,rfl,hA,hi⟩:=hI
  exact aa.br (fun h=>absurd cq (by rw [h];simp)) (fun _=>⟨_,rfl,hA,hi⟩)
 ·match y,hy with
  | .inl y,hy=>exact ⟨_,rfl,hy⟩
def KT (v:cU) (w:Int) (s:P_2) (h:uP s):Says (F_10 (v,w,s,())) (1≤w∧IM s∧bG v w s):=by
 refine aa.of (TY (v,w,s,())) ?_
 refine Says.iG iI fun hw=>?_
 refine Says.xb (OD s h) fun b hb=>?_
 refine Says.GC (OR hb) fun hS=>?_
 have no:∀{P:Prop},¬ P→Says (some (false,())) P:=fun h=>Says.no h
 have lo:∀{ph:Int},ph=0∨ph=1∨ph=2→v.2.1=ph→(bG v w s↔(0≤v.2.2.1∧v.2.2.1<(List.length s.2.1:Int))):=by
  intro ph hph hv
  unfold bG
  constructor
  ·rintro (⟨_,h⟩ | ⟨_,h⟩ | ⟨_,h⟩ | ⟨h,_⟩ | ⟨h,_⟩ | ⟨h,_⟩)
   ·exact h
   ·exact h
   ·exact h
   all_goals (exfalso;omega)
  ·intro h
   rcases hph with rfl | rfl | rfl
   ·exact .inl ⟨hv,h⟩
   ·exact .inr (.inl ⟨hv,h⟩)
   ·exact .inr (.inr (.inl ⟨hv,h⟩))
 have p3:v.2.1=3→(bG v w s↔bT s.2.1 v.2.2.1=true):=by
  intro p
  unfold bG
  constructor
  ·rintro (⟨h,_⟩ | ⟨h,_⟩ | ⟨h,_⟩ | ⟨_,h⟩ | ⟨h,_⟩ | ⟨h,_⟩)
   any_goals (exfalso;omega)
   exact h
  ·intro h;exact .inr (.inr (.inr (.inl ⟨p,h⟩)))
 have p4:v.2.1=4→(bG v w s↔∀k,k<List.length s.2.1→aM s.2.1 (k:Int) w=true):=by
  intro p
  unfold bG
  constructor
  ·rintro (⟨h,_⟩ | ⟨h,_⟩ | ⟨h,_⟩ | ⟨h,_⟩ | ⟨_,h⟩ | ⟨h,_⟩)
   any_goals (exfalso;omega)
   exact h
  ·intro h;exact .inr (.inr (.inr (.inr (.inl ⟨p,h⟩))))
 have p5:v.2.1=5→(bG v w s↔((0≤v.2.2.1∧v.2.2.1<(List.length s.2.1:Int))∧aM s.2.1 v.2.2.1 w=true)):=by
  intro p
  unfold bG
  constructor
  ·rintro (⟨h,_⟩ | ⟨h,_⟩ | ⟨h,_⟩ | ⟨h,_⟩ | ⟨h,_⟩ | ⟨_,h,h2⟩)
   any_goals (exfalso;omega)
   exact ⟨h,h2⟩
  ·intro h;exact .inr (.inr (.inr (.inr (.inr ⟨p,h.1,h.2⟩))))
 have pn:v.2.1≠0→v.2.1≠1→v.2.1≠2→v.2.1≠3→v.2.1≠4→v.2.1≠5→¬ bG v w s:=by
  intro a b c d e f
  unfold bG
  rintro (⟨h,_⟩ | ⟨h,_⟩ | ⟨h,_⟩ | ⟨h,_⟩ | ⟨h,_⟩ | ⟨h,_⟩) <;> (exfalso;omega)
 have held:v.2.1=4→Says (xb (F_13 (s.2.1,w,())) fun y2:List Int×Unit=>some (((((List.length y2.1):Nat):Int)==(((List.length s.2.1):Nat):Int)),())) (bG v w s):=fun p=>by
  refine aa.xb (LR s.2.1 w h.1) fun y hy=>⟨_,rfl,?_⟩
  obtain ⟨l,u⟩:=y
  have hy2:l.length=List.length s.2.1↔∀k,k<List.length s.2.1→aM s.2.1 (k:Int) w=true:=hy.2
  rw [p4 p,← hy2]
  show (((l.length:Nat):Int)==((List.length s.2.1:Nat):Int))=true↔_
  rw [beq_iff_eq];omega
 have free:v.2.1=3→Says (xb (F_12 (s.2.1,v.2.2.1,())) fun y:Bool×Unit=>some y) (bG v w s):=fun p=>by
  refine aa.gj (LX _ _) ⟨_,rfl,?_⟩
  rw [p3 p]
 refine aa.br (fun ha=>?_) (fun ha=>?_)
 ·have ha:0≤v.2.2.1:=tF.1 ha
  have lo':∀{ph:Int},ph=0∨ph=1∨ph=2→v.2.1=ph→Says (some (decide (v.2.2.1<((List.length s.2.1:Nat):Int)),())) (bG v w s):=fun h1 h2=>Says.of (by rw [lo h1 h2,decide_eq_true_iff];exact ⟨fun k=>⟨ha,k⟩,And.right⟩)
  refine aa.br (fun p=>lo' (ph:=0) (by simp) (eq_of_beq (α:=Int) p)) (fun q0=>?_)
  refine aa.br (fun p=>lo' (ph:=1) (by simp) (eq_of_beq (α:=Int) p)) (fun q1=>?_)
  refine aa.br (fun p=>lo' (ph:=2) (by simp) (eq_of_beq (α:=Int) p)) (fun q2=>?_)
  refine aa.br (fun p=>free (eq_of_beq (α:=Int) p)) (fun q3=>?_)
  refine aa.br (fun p=>held (eq_of_beq (α:=Int) p)) (fun q4=>?_)
  refine aa.br (fun p=>?_) (fun q5=>no (pn (ne_of_beq_false (α:=Int) q0) (ne_of_beq_false (α:=Int) q1) (ne_of_beq_false (α:=Int) q2) (ne_of_beq_false (α:=Int) q3) (ne_of_beq_false (α:=Int) q4) (ne_of_beq_false (α:=Int) q5)))
  have p:v.2.1=5:=eq_of_beq (α:=Int) p
  refine aa.br (fun hl=>?_) (fun hl=>no fun k=>?_)
  ·have hl:v.2.2.1<(List.length s.2.1:Int):=of_decide_eq_true (eq_of_beq hl)
   refine aa.gd (bC.2 ⟨ha,hl⟩) (aa.gd (decide_eq_true (by show v.2.2.1.toNat<List.length s.2.1;omega)) (Says.of ?_))
   rw [p5 p]
   unfold aM
   rw [decide_eq_true (show w≥1 by exact hw),Bool.true_and]
   exact ⟨fun k=>⟨⟨ha,hl⟩,k⟩,And.right⟩
  ·have hl:(decide (v.2.2.1<(List.length s.2.1:Int))==true)=false:=hl
   rw [decide_eq_true ((p5 p).1 k).1.2] at hl;cases hl
 ·have ha:¬ 0≤v.2.2.1:=fun c=>by
   have ha:(decide (v.2.2.1≥0)==true)=false:=ha
   rw [decide_eq_true c] at ha;cases ha
  refine aa.br (fun p=>no fun k=>ha ((lo (ph:=0) (by simp) (eq_of_beq (α:=Int) p)).1 k).1) (fun q0=>?_)
  refine aa.br (fun p=>no fun k=>ha ((lo (ph:=1) (by simp) (eq_of_beq (α:=Int) p)).1 k).1) (fun q1=>?_)
  refine aa.br (fun p=>no fun k=>ha ((lo (ph:=2) (by simp) (eq_of_beq (α:=Int) p)).1 k).1) (fun q2=>?_)
  refine aa.br (fun p=>free (eq_of_beq (α:=Int) p)) (fun q3=>?_)
  refine aa.br (fun p=>held (eq_of_beq (α:=Int) p)) (fun q4=>?_)
  exact aa.br (fun p=>no fun k=>ha ((p5 (eq_of_beq (α:=Int) p)).1 k).1.1) (fun q5=>no (pn (ne_of_beq_false (α:=Int) q0) (ne_of_beq_false (α:=Int) q1) (ne_of_beq_false (α:=Int) q2) (ne_of_beq_false (α:=Int) q3) (ne_of_beq_false (α:=Int) q4) (ne_of_beq_false (α:=Int) q5)))
def qw (v:cU) (w:Int) (s:P_2) (h:uP s):F_10 (v,w,s,())=some (de v w s,()):=by
 obtain ⟨⟨b,u⟩,e,hb⟩:=KT v w s h
 obtain ⟨m,em,_,⟨⟨c,u2⟩,e2,hc⟩⟩:=ue v w s h
 obtain ⟨⟨m',u3⟩,em',hm'⟩:=IE s h
 have e3:m=m':=by rw [em] at em';exact congrArg (fun o=>match o with | some x=>x.1 | none=>false) em'
 have hm:m=true↔IM s:=by rw [e3];exact hm'
 have e4:de v w s=c:=by unfold de;rw [e2];rfl
 rw [e4]
 have hbc:b=c:=by
  have hb:b=true↔(1≤w∧IM s∧bG v w s):=hb
  have hc:c=true↔(1≤w∧m=true∧bG v w s):=hc
  rw [hm,← hb] at hc
  cases b <;> cases c <;> simp_all
 rw [← hbc];exact e
end Go.Proofs.YtdbjakibneeeiaaGreatDoor.Ex
namespace Go.Proofs.YtdbjakibneeeiaaGreatDoor.Ex
open Go.RowKit Sx
def Lr (a:dc):Int:=a.1
def gq (a:dc) (l:List dc):List dc:=ax.ins Lr a l
def EB (a:dc):gq a []=[a]:=rfl
def Dq (a y:dc) (l:List dc):gq a (y::l)=if a.1<y.1 then a::y::l else y::gq a l:=rfl
def Ea (a:dc) (l:List dc):(gq a l).length=l.length+1:=(ax.uq Lr a l).length_eq
def drop_cons {A:Type} {L:List A} {d:A} {k:Nat} (h:k<L.length):L.drop k=L.getD k d::L.drop (k+1):=by
 rw [bE h];exact List.drop_eq_getElem_cons h
def put_eq (l:List dc) (a:dc) (hl:l.length≤100000):F_11 (l,a,())=some (gq a l,()):=by
 refine aa.of_eq (Q:=fun _=>True) (aa.of (RA (l,a,())) ?_)
 refine aa.xb (aa.cnt (Q:=fun r:((Bool×Unit)×(((dc×Unit)×Unit)×(List dc×Unit))) ⊕ Empty=>match r with | .inl y=>∃(b:Bool) (out:List dc),y=((b,()),((a,()),()),out,())∧(if b=true then out=gq a l else out=l∧gq a l=l++[a]) | .inr _=>False)
  (fun k st=>∃(b:Bool) (out:List dc),st=((l,b,(k:Int),()),((a,()),()),out,())∧out.length≤k+1∧(if b=true then out++l.drop k=gq a l else out=l.take k∧out++gq a (l.drop k)=gq a l)) l.length (by omega) (fun k st hk hI=>?_) (fun st hI=>?_) ⟨false,[],rfl,Nat.zero_le _,rfl,rfl⟩) (fun y hy=>?_)
 ·obtain ⟨b,out,rfl,ho,hI⟩:=hI
  have ek:l.getD (Int.toNat (k:Int)) cI=l.getD k cI:=by rw [Int.toNat_natCast]
  have hd:l.drop k=l.getD k cI::l.drop (k+1):=drop_cons hk
  have bl:∀(o:List dc),o.length≤k+2→(Nat.ble (o.length+1) 9223372036854775807&&Nat.ble ((o.length+1)*40) 140737488355328)=true:=fun o h=>B8 (by omega) (by decide)
  refine aa.br (fun _=>?_) (fun h=>absurd (cr hk) (by rw [h];simp))
  cases b with
  | false=>
   obtain ⟨h1,h2⟩:out=l.take k∧out++gq a (l.drop k)=gq a l:=by simpa using hI
   rw [hd,Dq] at h2
   have hol:out.length=k:=by rw [h1,List.length_take];omega
   refine aa.br (fun _=>?_) (fun h=>by cases h)
   refine aa.gd (b9 hk) (aa.gd (bf hk) (aa.br (fun hlt=>?_) (fun hlt=>?_)))
   ·have hlt:a.1<(l.getD k cI).1:=by rw [← ek];exact of_decide_eq_true hlt
    rw [if_pos hlt] at h2
    refine aa.gd (bl out (by omega)) (aa.gd (b9 hk) (aa.gd (bf hk) (aa.gd (bl (out++[a]) (by rw [List.length_append];simp only [List.length_singleton];omega)) (aa.gd (aU hk (by omega)) ⟨_,rfl,true,(out++[a])++[l.getD k cI],?_,?_,?_⟩))))
    ·show ((l,true,(k:Int)+1,()),((a,()),()),(out++[a])++[l.getD (Int.toNat (k:Int)) cI],())=_
     rw [ek];rfl
    ·rw [List.length_append,List.length_append];simp only [List.length_singleton];omega
    ·rw [if_pos rfl,← h2]
     simp only [List.append_assoc,List.cons_append,List.nil_append]
   ·have hlt:¬ a.1<(l.getD k cI).1:=by rw [← ek];exact of_decide_eq_false hlt
    rw [if_neg hlt] at h2
    refine aa.gd (b9 hk) (aa.gd (bf hk) (aa.gd (bl out (by omega)) (aa.gd (aU hk (by omega)) ⟨_,rfl,false,out++[l.getD k cI],?_,?_,?_⟩)))
    ·show ((l,false,(k:Int)+1,()),((a,()),()),out++[l.getD (Int.toNat (k:Int)) cI],())=_
     rw [ek];rfl
    ·rw [List.length_append];simp only [List.length_singleton];omega
    ·rw [if_neg (by decide)]
     refine ⟨?_,?_⟩
     ·rw [List.take_succ_eq_append_getElem hk,← h1,bE hk]
     ·rw [← h2];simp only [List.append_assoc,List.cons_append,List.nil_append]
  | true=>
   have h2:out++l.drop k=gq a l:=by simpa using hI
   rw [hd] at h2
   refine aa.br (fun h=>by cases h) (fun _=>?_)
   refine aa.gd (b9 hk) (aa.gd (bf hk) (aa.gd (bl out (by omega)) (aa.gd (aU hk (by omega)) ⟨_,rfl,true,out++[l.getD k cI],?_,?_,?_⟩)))
   ·show ((l,true,(k:Int)+1,()),((a,()),()),out++[l.getD (Int.toNat (k:Int)) cI],())=_
    rw [ek];rfl
   ·rw [List.length_append];simp only [List.length_singleton];omega
   ·rw [if_pos rfl,← h2]
    simp only [List.append_assoc,List.cons_append,List.nil_append]
 ·obtain ⟨b,out,rfl,ho,hI⟩:=hI
  refine aa.br (fun h=>absurd cq (by rw [h];simp)) (fun _=>⟨_,rfl,b,out,rfl,?_⟩)
  cases b with
  | false=>
   obtain ⟨h1,h2⟩:out=l.take l.length∧out++gq a (l.drop l.length)=gq a l:=by simpa using hI
   rw [List.take_length] at h1
   rw [List.drop_length,EB,h1] at h2
   rw [if_neg (by decide)]
   exact ⟨h1,h2.symm⟩
  | true=>
   have h2:out++l.drop l.length=gq a l:=by simpa using hI
   rw [List.drop_length,List.append_nil] at h2
   rw [if_pos rfl];exact h2
 ·match y,hy with
  | .inl y,⟨b,out,e,hb⟩=>
   subst e
   cases b with
   | false=>
    obtain ⟨h1,h2⟩:out=l∧gq a l=l++[a]:=by simpa using hb
    subst h1
    show aa (gd (Nat.ble (out.length+1) 9223372036854775807&&Nat.ble ((out.length+1)*40) 140737488355328) (some (out++[a],()))) _
    refine aa.gd (B8 (by omega) (by decide)) ⟨_,rfl,?_⟩
    rw [h2]
   | true=>
    have h1:out=gq a l:=by simpa using hb
    subst h1
    exact ⟨_,rfl,rfl⟩
def rV (M:List dc):List dc:=M.foldl (fun acc x=>gq x acc) []
def FB (L:List cQ):dQ L=rV (gw L):=by
 unfold dQ kY
 rw [ax.Co (fun p:ax.PA=>p.1) Lr nt (fun _=>rfl),List.map_map]
 have:(nt∘s4)=id:=funext zm
 rw [this,List.map_id];rfl
def uX (M:List dc):∀acc:List dc,(M.foldl (fun acc x=>gq x acc) acc).length=acc.length+M.length:=by
 induction M with
 | nil=>intro acc;rfl
 | cons x M ih=>intro acc;rw [List.foldl_cons,ih,Ea,List.length_cons];omega
def CQ {L:List cQ} {k:Nat} (hk:k<L.length):gw (L.take (k+1))=gw (L.take k)++gp (L.getD k fJ):=by
 unfold gw
 rw [List.take_succ_eq_append_getElem hk,List.flatMap_append,List.flatMap_singleton,bE hk]
def Fz {n:Nat} (L:List cQ) (h:lX n L) (hn:n≤1000):F_15 (L,())=some (dQ L,()):=by
 rw [FB]
 have hL9:L.length≤9223372036854775807:=Nat.le_trans h.1 (Nat.le_trans hn (by decide))
 refine aa.of_eq (Q:=fun _=>True) (aa.of (Uv (L,())) ?_)
 have hL:=h.1
 have hlen:∀k,(gw (L.take k)).length≤20000:=fun k=>by
  have h1:=nW (n:=20) (L:=L.take k) fun c hc=>(h.2 c (List.mem_of_mem_take hc)).1
  have h2:(L.take k).length≤L.length:=by rw [List.length_take];omega
  omega
 refine aa.xb (aa.cnt (Q:=fun r:(((List dc)×Unit)×(Unit×Unit)) ⊕ Empty=>match r with | .inl y=>y.1.1=rV (gw L) | .inr _=>False) (fun k st=>∃J:List dc,J=rV (gw (L.take k))∧st=((L,J,(k:Int),()),(),())) L.length (by omega) (fun k st hk hI=>?_) (fun st hI=>?_) ⟨[],rfl,rfl⟩) (fun y hy=>?_)
 ·obtain ⟨J,hJ,rfl⟩:=hI
  have ek:L.getD (Int.toNat (k:Int)) fJ=L.getD k fJ:=by rw [Int.toNat_natCast]
  have hm:L.getD k fJ∈L:=by rw [bE hk];exact List.getElem_mem hk
  have hc:(gp (L.getD k fJ)).length≤20:=(h.2 _ hm).1
  refine aa.br (fun _=>?_) (fun h=>absurd (cr hk) (by rw [h];simp))
  refine aa.xb (aa.idx (Q:=fun r:(((List cQ)×((List dc)×(Int×Unit)))×(Unit×Unit)) ⊕ Empty=>match r with | .inl y=>∃J':List dc,J'=rV (gw (L.take (k+1)))∧y=((L,J',(k:Int),()),(),()) | .inr _=>False) (fun i=>((L,((gp (L.getD k fJ)).take i).foldl (fun acc x=>gq x acc) J,(k:Int),(i:Int),()),(),())) (fun _=>True) (gp (L.getD k fJ)).length (by omega) trivial (fun i hi _=>?_) (fun _=>?_) rfl) (fun z hz=>?_)
  ·have hi':i<List.length (L.getD (Int.toNat (k:Int)) fJ).1:=by rw [ek];exact hi
   refine aa.gd (b9 hk) (aa.gd (bf hk) (aa.br (fun _=>?_) (fun h=>absurd (cr hi') (by rw [h];simp))))
   refine aa.gd (b9 hk) (aa.gd (bf hk) (aa.gd (b9 hi') (aa.gd (bf hi') ?_)))
   have ea:List.getD (L.getD (Int.toNat (k:Int)) fJ).1 (Int.toNat (i:Int)) cI=(gp (L.getD k fJ)).getD i cI:=by rw [ek,Int.toNat_natCast];rfl
   have hb:(((gp (L.getD k fJ)).take i).foldl (fun acc x=>gq x acc) J).length≤100000:=by
    have h1:=hlen k
    have h2:J.length=(gw (L.take k)).length:=by rw [hJ];unfold rV;rw [uX];simp
    rw [uX,List.length_take]
    omega
   have ep:F_11 (((gp (L.getD k fJ)).take i).foldl (fun acc x=>gq x acc) J,List.getD (L.getD (Int.toNat (k:Int)) fJ).1 (Int.toNat (i:Int)) cI,())=some (gq ((gp (L.getD k fJ)).getD i cI) (((gp (L.getD k fJ)).take i).foldl (fun acc x=>gq x acc) J),()):=
    (congrArg (fun t:dc=>F_11 (((gp (L.getD k fJ)).take i).foldl (fun acc x=>gq x acc) J,t,())) ea).trans (put_eq _ _ hb)
   refine aa.gj ep (aa.gd (aU hi (by omega)) ⟨_,rfl,?_,trivial⟩)
   rw [List.take_succ_eq_append_getElem hi,List.foldl_append,← bE (d:=cI) hi];rfl
  ·have e0:decide ((((gp (L.getD k fJ)).length:Nat):Int)<((List.length (L.getD (Int.toNat (k:Int)) fJ).1:Nat):Int))=false:=by rw [ek];exact cq
   refine aa.gd (b9 hk) (aa.gd (bf hk) (aa.br (fun h=>absurd e0 (by rw [h];simp)) (fun _=>⟨_,rfl,_,?_,rfl⟩)))
   rw [List.take_length,CQ hk,hJ]
   unfold rV
   rw [List.foldl_append]
  ·match z,hz with
   | .inl z,⟨J',h1,e⟩=>
    subst e
    refine aa.of Jy ?_
    refine aa.gd (aU hk hL9) ?_
    exact ⟨_,rfl,J',h1,rfl⟩
 ·obtain ⟨J,hJ,rfl⟩:=hI
  refine aa.br (fun h=>absurd cq (by rw [h];simp)) (fun _=>⟨_,rfl,?_⟩)
  show J=_
  rw [hJ,List.take_length]
 ·match y,hy with
  | .inl ((y,u1),u2),e=>
   have e:y=rV (gw L):=e
   subst e
   exact ⟨_,rfl,rfl⟩
end Go.Proofs.YtdbjakibneeeiaaGreatDoor.Ex
namespace Go.Proofs.YtdbjakibneeeiaaGreatDoor.Ex
open Go.RowKit Sx
def YD (v:cU) (w:Int) (s:P_2) (h:uP s):de v w s=true↔(1≤w∧IM s∧bG v w s):=by
 obtain ⟨⟨b,u⟩,e,hb⟩:=KT v w s h
 have e2:=qw v w s h
 rw [e] at e2
 have e3:b=de v w s:=congrArg (fun o:Option (af [.bool])=>match o with | some x=>x.1 | none=>false) e2
 rw [← e3];exact hb
def Zc {w:Int} (V:Nat→cU) (S:Nat→P_2):∀(n m i:Nat),(∀j,i≤j→j<i+n→de (V j) w (S j)=true∧(aB (V j) w (S j)).1=V (j+1)∧(aB (V j) w (S j)).2.1=S (j+1))→gF (n+m) (V i) w (S i)=gF m (V (i+n)) w (S (i+n))
 | 0,m,i,_=>by rw [Nat.zero_add];rfl
 | n+1,m,i,h=>by
  obtain ⟨h1,h2,h3⟩:=h i (Nat.le_refl _) (by omega)
  rw [Nat.succ_add]
  show (bif de (V i) w (S i) then gF (n+m) (aB (V i) w (S i)).1 w (aB (V i) w (S i)).2.1 else (V i,S i))=_
  rw [h1,cond_true,h2,h3,Zc V S n m (i+1) (fun j h4 h5=>h j (by omega) (by omega))]
  have:i+1+n=i+(n+1):=by omega
  rw [this]
def qi (s:P_2) (k:Nat):List Int:=(List.take k s.2.2.2.1:List cQ).map fun c=>c.2.1
def Tb (s:P_2) (k:Nat):List cQ:=List.take k s.2.2.2.1
abbrev Zt:Te:=((0:Int),((0:Int),(0:Int),(0:Int),(0:Int),(0:Int),ByteArray.empty,()),[],(0:Int),())
def Yy (g ph at_ tr:Int) (vs:List Int) (cp:List cQ):cU:=(g,ph,at_,tr,vs,cp,Zt,())
def YN {A:Type} {L:List A} {d:A} {k:Nat} (h:k<L.length):L.take (k+1)=L.take k++[L.getD k d]:=by
 rw [List.take_succ_eq_append_getElem h,bE h]
def YJ (s:P_2) (k:Nat):gl s (k:Int)=List.getD s.2.2.2.1 k fJ:=by unfold gl;rw [Int.toNat_natCast]
def ZJ {s:P_2} {k:Nat} (h:k<List.length s.2.2.2.1):qi s (k+1)=qi s k++[(gl s (k:Int)).2.1]:=by
 unfold qi
 rw [YN (d:=fJ) h,List.map_append,YJ];rfl
def ZK {s:P_2} {k:Nat} (h:k<List.length s.2.2.2.1):Tb s (k+1)=Tb s k++[gl s (k:Int)]:=by
 unfold Tb
 rw [YN (d:=fJ) h,YJ]
def ZX {v:cU} {n:Int} (h:v.2.2.1+1≠n):cm v n=(v.1,v.2.1,v.2.2.1+1,v.2.2.2):=by
 unfold cm;rw [beq_false_of_ne h];rfl
def ZZ {v:cU} {n:Int} (h:v.2.2.1+1=n):cm v n=(v.1,v.2.1+1,0,v.2.2.2):=by
 unfold cm;rw [h,beq_self_eq_true];rfl
section
variable {g w tr : Int} {s : P_2}
def Zl {k:Nat} (hs:xW s) (hp:IM s) (hw:1≤w) (hk:k<List.length s.2.1) (hz:GA s.2.1 k=0) :
  de (Yy g 0 k tr (qi s k) []) w s=true∧aB (Yy g 0 k tr (qi s k) []) w s=(cm (Yy g 0 k tr (qi s (k+1)) []) s.1.1,s,0,()):=by
 have hl:List.length s.2.2.2.1=List.length s.2.1:=hp.may.2.1
 refine ⟨(YD _ w s hs.cl).2 ⟨hw,hp,.inl ⟨rfl,by show (0:Int)≤(k:Int);omega,by show (k:Int)<_;omega⟩⟩,?_⟩
 have hf:bT s.2.1 (k:Int)=true:=by
  unfold bT
  rw [dA.2 ⟨by omega,by omega⟩,Bool.true_and,Int.toNat_natCast]
  exact (beq_iff_eq (α:=Int)).2 hz
 have e:aB (Yy g 0 k tr (qi s k) []) w s=(bif bT s.2.1 (k:Int) then cm (kM (Yy g 0 k tr (qi s k) []) (qi s k++[(gl s (k:Int)).2.1])) s.1.1 else dn (Yy g 0 k tr (qi s k) []),s,0,()):=rfl
 rw [e,hf,← ZJ (by omega)];rfl
def Zi {k:Nat} (hs:xW s) (hp:IM s) (hw:1≤w) (hk:k<List.length s.2.1) (vs:List Int) :
  de (Yy g 1 k tr vs (Tb s k)) w s=true∧aB (Yy g 1 k tr vs (Tb s k)) w s=(cm (Yy g 1 k tr vs (Tb s (k+1))) s.1.1,s,0,()):=by
 have hl:List.length s.2.2.2.1=List.length s.2.1:=hp.may.2.1
 refine ⟨(YD _ w s hs.cl).2 ⟨hw,hp,.inr (.inl ⟨rfl,by show (0:Int)≤(k:Int);omega,by show (k:Int)<_;omega⟩)⟩,?_⟩
 have e:aB (Yy g 1 k tr vs (Tb s k)) w s=(cm (mP (Yy g 1 k tr vs (Tb s k)) (Tb s k++[gl s (k:Int)])) s.1.1,s,0,()):=rfl
 rw [e,← ZK (by omega)];rfl
def Zq {k:Nat} (hs:xW s) (hp:IM s) (hw:1≤w) (hk:k<List.length s.2.1) (hz:GA s.2.1 k=0) (cp:List cQ) :
  de (Yy g 2 k tr (qi s (List.length s.2.1)) cp) w s=true∧(aB (Yy g 2 k tr (qi s (List.length s.2.1)) cp) w s).1=fT (cm (Yy g 2 k tr (qi s (List.length s.2.1)) cp) s.1.1)∧(aB (Yy g 2 k tr (qi s (List.length s.2.1)) cp) w s).2.1=s:=by
 have hl:List.length s.2.2.2.1=List.length s.2.1:=hp.may.2.1
 refine ⟨(YD _ w s hs.cl).2 ⟨hw,hp,.inr (.inr (.inl ⟨rfl,by show (0:Int)≤(k:Int);omega,by show (k:Int)<_;omega⟩))⟩,?_⟩
 have hv:(qi s (List.length s.2.1)).length=List.length s.2.1:=by unfold qi;rw [List.length_map,List.length_take,hl];omega
 have hf:nJ (Yy g 2 k tr (qi s (List.length s.2.1)) cp) s=true:=by
  show (bT s.2.1 (k:Int)&&(decide ((k:Int)<((qi s (List.length s.2.1)).length:Int))&&(List.getD (qi s (List.length s.2.1)) (k:Int).toNat (0:Int)==(gl s (k:Int)).2.1)))=true
  have h1:bT s.2.1 (k:Int)=true:=by
   unfold bT
   rw [dA.2 ⟨by omega,by omega⟩,Bool.true_and,Int.toNat_natCast]
   exact (beq_iff_eq (α:=Int)).2 hz
  have h2:List.getD (qi s (List.length s.2.1)) k (0:Int)=(gl s (k:Int)).2.1:=by
   rw [bE (by rw [hv];exact hk),YJ,bE (by omega)]
   unfold qi
   rw [List.getElem_map,List.getElem_take]
  rw [h1,decide_eq_true (by rw [hv];omega),Int.toNat_natCast,h2]
  simp
 have e:aB (Yy g 2 k tr (qi s (List.length s.2.1)) cp) w s=(kE (Yy g 2 k tr (qi s (List.length s.2.1)) cp) s,s,bif (k:Int)==0 then 1 else 0,()):=rfl
 rw [e]
 refine ⟨?_,rfl⟩
 show kE _ s=_
 unfold kE
 rw [hf];rfl
end
end Go.Proofs.YtdbjakibneeeiaaGreatDoor.Ex
namespace Go.Proofs.YtdbjakibneeeiaaGreatDoor.Ex
open Go.RowKit Sx
def Zs (g ph k tr:Int) (vs:List Int) (cp:List cQ) (n:Int):cm (Yy g ph k tr vs cp) n=if k+1=n then Yy g (ph+1) 0 tr vs cp else Yy g ph (k+1) tr vs cp:=by
 by_cases h:k+1=n
 ·rw [if_pos h];exact ZZ h
 ·rw [if_neg h];exact ZX h
def YI {w:Int} (n:Nat) (hn:0<n) (V:Nat→cU) (S:Nat→P_2) (E:cU) (a m:Nat) (ha:a<n)
  (h:∀k,a≤k→k<n→de (V k) w (S k)=true∧(aB (V k) w (S k)).1=(if k+1=n then E else V (k+1))∧(aB (V k) w (S k)).2.1=S (k+1)):gF (n - a+m) (V a) w (S a)=gF m E w (S n):=by
 have:=Zc (w:=w) (fun k=>if k<n then V k else E) S (n - a) m a (fun j h1 h2=>by
  obtain ⟨q1,q2,q3⟩:=h j h1 (by omega)
  have e1:(if j<n then V j else E)=V j:=if_pos (by omega)
  have e2:(if j+1<n then V (j+1) else E)=if j+1=n then E else V (j+1):=by
   by_cases c:j+1=n
   ·rw [if_pos c,if_neg (by omega)]
   ·rw [if_neg c,if_pos (by omega)]
  show de (if j<n then V j else E) w (S j)=true∧(aB (if j<n then V j else E) w (S j)).1=(if j+1<n then V (j+1) else E)∧_
  rw [e1,e2]
  exact ⟨q1,q2,q3⟩)
 have e1:(if a<n then V a else E)=V a:=if_pos ha
 have e2:a+(n - a)=n:=by omega
 rw [e2] at this
 have e3:(if n<n then V n else E)=E:=if_neg (Nat.lt_irrefl _)
 have t:gF (n - a+m) (if a<n then V a else E) w (S a)=gF m (if n<n then V n else E) w (S n):=this
 rwa [e1,e3] at t
section
variable {g w : Int} {s : P_2}
def YK {k n:Nat} {A:Type} {x y:A} {c:Int} (hc:(n:Int)=c):(if (k:Int)+1=c then x else y)=if k+1=n then x else y:=by
 by_cases h:k+1=n
 ·rw [if_pos h,if_pos (by omega)]
 ·rw [if_neg h,if_neg (by omega)]
def ZU (hp:IM s):Tb s (List.length s.2.1)=s.2.2.2.1:=by
 have hl:List.length s.2.2.2.1=List.length s.2.1:=hp.may.2.1
 unfold Tb
 rw [← hl,List.take_length]
def Zk (hs:xW s) (hp:IM s) (hw:1≤w) (hz:∀k,k<List.length s.2.1→GA s.2.1 k=0) :
  gF (3*List.length s.2.1) (EM g) w s=((g,(6:Int),(0:Int),(0:Int),qi s (List.length s.2.1),s.2.2.2.1,nD s.2.2.2.1 g,()),s):=by
 have hm:=hp.may
 have hn:0<List.length s.2.1:=hm.2.2.1
 have hc:((List.length s.2.1:Nat):Int)=s.1.1:=hm.1
 generalize hN:List.length s.2.1=n at *
 have e0:3*n=(n - 0)+((n - 0)+((n - 0)+0)):=by omega
 rw [e0]
 have r1:=YI (w:=w) n hn (fun k=>Yy g 0 k 0 (qi s k) []) (fun _=>s) (Yy g 1 0 0 (qi s n) []) 0 ((n - 0)+((n - 0)+0)) hn (fun k _ hk=>by
  obtain ⟨q1,q2⟩:=Zl (g:=g) (tr:=0) (k:=k) hs hp hw (by omega) (hz k hk)
  refine ⟨q1,?_,by rw [q2]⟩
  rw [q2]
  show cm (Yy g 0 k 0 (qi s (k+1)) []) s.1.1=_
  rw [Zs,YK hc]
  by_cases c:k+1=n
  ·rw [if_pos c,if_pos c,c];rfl
  ·rw [if_neg c,if_neg c];rfl)
 have r2:=YI (w:=w) n hn (fun k=>Yy g 1 k 0 (qi s n) (Tb s k)) (fun _=>s) (Yy g 2 0 0 (qi s n) (Tb s n)) 0 ((n - 0)+0) hn (fun k _ hk=>by
  obtain ⟨q1,q2⟩:=Zi (g:=g) (tr:=0) (k:=k) hs hp hw (by omega) (qi s n)
  refine ⟨q1,?_,by rw [q2]⟩
  rw [q2]
  show cm (Yy g 1 k 0 (qi s n) (Tb s (k+1))) s.1.1=_
  rw [Zs,YK hc]
  by_cases c:k+1=n
  ·rw [if_pos c,if_pos c,c];rfl
  ·rw [if_neg c,if_neg c];rfl)
 have r3:=YI (w:=w) n hn (fun k=>Yy g 2 k 0 (qi s n) (Tb s n)) (fun _=>s) (g,(6:Int),(0:Int),(0:Int),qi s n,Tb s n,nD (Tb s n) g,()) 0 0 hn (fun k _ hk=>by
  have:=Zq (g:=g) (tr:=0) (k:=k) (w:=w) (s:=s) hs hp hw (by omega) (hz k hk) (Tb s n)
  rw [hN] at this
  obtain ⟨q1,q2,q3⟩:=this
  refine ⟨q1,?_,q3⟩
  refine q2.trans ?_
  rw [Zs,YK hc]
  by_cases c:k+1=n
  ·rw [if_pos c,if_pos c];rfl
  ·rw [if_neg c,if_neg c];rfl)
 have e1:EM g=Yy g 0 (0:Nat) 0 (qi s 0) []:=rfl
 rw [e1]
 refine r1.trans ?_
 have e2:Yy g 1 0 0 (qi s n) []=Yy g 1 (0:Nat) 0 (qi s n) (Tb s 0):=rfl
 rw [e2]
 refine r2.trans ?_
 refine r3.trans ?_
 have e3:Tb s n=s.2.2.2.1:=by rw [← hN];exact ZU hp
 rw [e3];rfl
end
end Go.Proofs.YtdbjakibneeeiaaGreatDoor.Ex
namespace Go.Proofs.YtdbjakibneeeiaaGreatDoor.Ex
open Go.RowKit Sx
def Za (L:List dc):Prop:=L.length≤1000000∧∀a∈L,List.length a.2.2.1≤1000000
def Zd (c:Mf) (L:List dc) (n:Int) (o:P_7) (r:Te) (h:Za L):a0b ((c,(L,n,()),o,()),r,())=some (L,r,[],()):=by
 refine aa.of_eq (Q:=fun _=>True) (aa.of (a0n ((c,(L,n,()),o,()),r,())) ?_)
 refine aa.gj (iB h.1) ?_
 have hL:L.length≤9223372036854775807:=Nat.le_trans h.1 (by decide)
 refine aa.xb (aa.idx (Q:=fun z=>match z with | .inl y=>y.2.1.1.1=r∧y.2.2.1=L | .inr y=>False) (fun k=>(((L.length:Int),(k:Int),()),((r,()),(Zt,()),()),L,())) (fun _=>True) L.length hL trivial (fun k hk _=>?_) (fun _=>?_) rfl) (fun y hy=>?_)
 ·have eg2:L.getD (Int.toNat (k:Int)) ((0:Int),(0:Int),[],())=L[k]:=by rw [Int.toNat_natCast];exact bE hk
  have hm2:L[k]∈L:=List.getElem_mem hk
  refine aa.br (fun _=>?_) (fun h=>absurd (cr hk) (by rw [h];simp))
  refine aa.gd (b9 hk) (aa.gd (bf hk) ?_)
  have e2:uM (L.getD (Int.toNat (k:Int)) ((0:Int),(0:Int),[],())).2.2.1=some (L[k]).2.2.1:=by rw [eg2];exact iB (h.2 _ hm2)
  refine aa.gj e2 (aa.gd (b9 hk) (aa.gd (bf hk) (aa.gd (aU hk hL) ⟨_,rfl,?_,trivial⟩)))
  show ((_,(k:Int)+1,()),((r,()),(Zt,()),()),List.set L (Int.toNat (k:Int)) ((L.getD (Int.toNat (k:Int)) ((0:Int),(0:Int),[],())).1,(L.getD (Int.toNat (k:Int)) ((0:Int),(0:Int),[],())).2.1,(L[k]).2.2.1,()),())=_
  have e3:List.set L (Int.toNat (k:Int)) ((L.getD (Int.toNat (k:Int)) ((0:Int),(0:Int),[],())).1,(L.getD (Int.toNat (k:Int)) ((0:Int),(0:Int),[],())).2.1,(L[k]).2.2.1,())=L:=by
   rw [eg2,Int.toNat_natCast];exact List.set_getElem_self hk
  rw [e3];rfl
 ·exact aa.br (fun h=>absurd cq (by rw [h];simp)) (fun _=>⟨_,rfl,rfl,rfl⟩)
 ·match y,hy with
  | .inl (u1,((r2,u2),u3),y,u4),⟨e1,e⟩=>
   have e1:r2=r:=e1
   have e:y=L:=e
   subst e1 e
   exact ⟨_,rfl,rfl⟩
def Zx (c:Mf) (L:List dc) (n:Int) (o:P_7) (e:Int) (h:Za L):∃r:Te,a0h ((c,(L,n,()),o,()),e,())=some (L,r,[],()):=
 ⟨_,(a0u _).trans (aY (Zd c L n o _ h))⟩
def ZL (n:Int):Int:=if 0≤n∧n≤400 then (if (1:Int)>Go.IntKind.i64.wrap ((n+31).tdiv 32) then 1 else Go.IntKind.i64.wrap ((n+31).tdiv 32)) else 0
def ZD (n:Int):NL (n,())=some (ZL n,()):=by
 refine (a0l (n,())).trans ?_
 have e:PB (n,(400:Int),())=some (decide (0≤n)&&decide (n≤400),()):=by
  refine (a0t (n,(400:Int),())).trans ?_
  show az (decide (0≤n)==true) (some (decide (n≤400),())) (some (false,()))=_
  cases decide (0≤n) <;> rfl
 refine (aY e).trans ?_
 unfold ZL
 by_cases h:0≤n∧n≤400
 ·rw [if_pos h,decide_eq_true h.1,decide_eq_true h.2]
  show gd (dx (n+32)) (gd (dx (n+32 - 1)) _)=_
  rw [aT (kr.2 (by omega)),aT (kr.2 (by omega))]
  have e2:n+32 - 1=n+31:=by omega
  rw [e2]
  congr 2
  split <;> split <;> omega
 ·rw [if_neg h]
  have:(decide (0≤n)&&decide (n≤400))=false:=by
   rw [Bool.and_eq_false_iff,decide_eq_false_iff_not,decide_eq_false_iff_not];omega
  rw [this];rfl
def YR {n:Int} (h:¬ (0≤n∧n≤400)):ZL n=0:=if_neg h
def Zr {n:Int} (h:0≤n∧n≤400):ZL n=if (1:Int)>Go.IntKind.i64.wrap ((n+31).tdiv 32) then 1 else Go.IntKind.i64.wrap ((n+31).tdiv 32):=if_pos h
def ZC (n:Int):Zf (n,())=some (ZL n,()):=by
 refine (a0E (n,())).trans ?_
 by_cases h0:n<0
 ·rw [YR (by omega)]
  show az (decide (n<0)==false) _ _=_
  rw [decide_eq_true h0];rfl
 ·by_cases h1:n>400
  ·rw [YR (by omega)]
   show az (decide (n<0)==false) (az (decide (n>400)) _ _) _=_
   rw [decide_eq_false h0,decide_eq_true h1];rfl
  ·rw [Zr (by omega)]
   show az (decide (n<0)==false) (az (decide (n>400)) _ (gd (dx (n+31)) _)) _=_
   rw [decide_eq_false h0,decide_eq_false h1,kr.2 (by omega)];rfl
def Yt {A:Type} (f:A→Int) (L:List A):Int:=(L.map f).sum
def YC {A:Type} (f:A→Int) (L:List A) {k:Nat} (h:k<L.length):Yt f (L.take (k+1))=Yt f (L.take k)+f L[k]:=by
 unfold Yt
 rw [List.take_succ_eq_append_getElem h,List.map_append,List.sum_append]
 simp
def Zb {A:Type} (f:A→Int) (c:Int):∀(L:List A),(∀x∈L,0≤f x∧f x≤c)→0≤Yt f L∧Yt f L≤c*L.length
 | [],_=>⟨Int.le_refl _,by simp [Yt]⟩
 | x::L,h=>by
  have h1:=h x List.mem_cons_self
  have h2:=Zb f c L fun y hy=>h y (List.mem_cons_of_mem _ hy)
  have e:Yt f (x::L)=f x+Yt f L:=by simp [Yt]
  rw [e,List.length_cons,Int.natCast_add,Int.mul_add]
  constructor
  ·omega
  ·have:c*((1:Nat):Int)=c:=by simp
   omega
def YW {A:Type} (f:A→Int) {c:Int} {L:List A} (h:∀x∈L,0≤f x∧f x≤c) (hc:0≤c) (hb:c*L.length≤9223372036854775807) (k:Nat):dx (Yt f (L.take k))=true:=by
 have h1:=Zb f c (L.take k) fun x hx=>h x (List.mem_of_mem_take hx)
 have h2:c*((L.take k).length:Int)≤c*(L.length:Int):=Int.mul_le_mul_of_nonneg_left (by rw [List.length_take];omega) hc
 exact kr.2 ⟨by omega,by omega⟩
def YF {A:Type} (f:A→Int) (L:List A):Yt f (L.take L.length)=Yt f L:=by rw [List.take_length]
def Zm (t:xu):txn.Tx:=txn.Tx.mk t.1 t.2.1 t.2.2.1 t.2.2.2.1 t.2.2.2.2.1 t.2.2.2.2.2.1
def YS (t:xu):Int:=if (Zm t).ok then ZL ((txn.fH (Zm t)).length:Int) else 0
def ZS (n:Int):0≤ZL n∧ZL n≤13:=by
 by_cases h:0≤n∧n≤400
 ·rw [Zr h]
  have h1:0≤(n+31).tdiv 32∧(n+31).tdiv 32≤13:=by
   rw [Int.tdiv_eq_ediv_of_nonneg (by omega)];omega
  have e:Go.IntKind.i64.wrap ((n+31).tdiv 32)=(n+31).tdiv 32:=by
   simp [Go.IntKind.wrap,Go.IntKind.bits,Go.IntKind.signed]
   omega
  rw [e]
  split <;> omega
 ·rw [YR h];omega
def Z6 (t:xu):0≤YS t∧YS t≤13:=by
 unfold YS;split
 ·exact ZS _
 ·omega
def a0c (t:xu) (h:ByteArray.size t.2.2.2.2.2.1≤maxLen):Oo (t,())=some (⟨(txn.fH (Zm t)).toArray⟩,(Zm t).ok,()):=by
 unfold Oo
 show (bif decide (ByteArray.size t.2.2.2.2.2.1≤maxLen) then some _ else none)=_
 rw [decide_eq_true h];rfl
def a0d (t:xu) (h:ByteArray.size t.2.2.2.2.2.1≤maxLen):Pu (t,())=some (YS t,()):=by
 refine (a0q (t,())).trans ((aY (a0c t h)).trans ?_)
 show az (!(Zm t).ok) (some ((0:Int),())) (xb (NL ((((txn.fH (Zm t)).toArray.size:Nat):Int),())) fun y=>some y)=_
 unfold YS
 cases (Zm t).ok with
 | false=>rfl
 | true=>exact (aY (ZD _)).trans (by rw [List.size_toArray];rfl)
def Zn (t:xu):Prop:=ByteArray.size t.2.2.2.2.2.1≤maxLen
def YU (a:dc):Prop:=List.length a.2.2.1≤1000000∧∀t:xu,t∈a.2.2.1→Zn t
def T6 (a:dc):Int:=Yt YS a.2.2.1
def Ze (a:dc) (h:YU a):0≤T6 a∧T6 a≤13000000:=by
 have h1:=Zb YS 13 a.2.2.1 fun t _=>Z6 t
 have h2:=h.1
 unfold T6
 exact ⟨h1.1,Int.le_trans h1.2 (by omega)⟩
def a01 (a:dc) (h:YU a):OK (a,())=some (T6 a,()):=by
 refine aa.of_eq (Q:=fun _=>True) (aa.of (a0w (a,())) ?_)
 have hL:List.length a.2.2.1≤9223372036854775807:=Nat.le_trans h.1 (by decide)
 have hb:(13:Int)*(List.length a.2.2.1:Int)≤9223372036854775807:=by have:=h.1;omega
 refine aa.xb (aa.idx (Q:=fun z=>match z with | .inl y=>y.1.1=T6 a | .inr y=>False) (fun k=>((Yt YS (a.2.2.1.take k),a.2.2.1,((List.length a.2.2.1:Nat):Int),(k:Int),()),(),())) (fun _=>True) (List.length a.2.2.1) hL trivial (fun k hk _=>?_) (fun _=>?_) rfl) (fun y hy=>?_)
 ·have eg:(a.2.2.1:List xu).getD (Int.toNat (k:Int)) nZ=(a.2.2.1:List xu)[k]:=by rw [Int.toNat_natCast];exact bE hk
  refine aa.br (fun _=>?_) (fun h=>absurd (cr hk) (by rw [h];simp))
  refine aa.gd (b9 hk) (aa.gd (bf hk) ?_)
  have e2:Pu ((a.2.2.1:List xu).getD (Int.toNat (k:Int)) nZ,())=some (YS (a.2.2.1:List xu)[k],()):=by rw [eg];exact a0d _ (h.2 _ (List.getElem_mem hk))
  refine aa.gj e2 ?_
  have e3:=YC YS (a.2.2.1:List xu) hk
  refine aa.gd (by rw [← e3];exact YW YS (fun t _=>Z6 t) (by decide) hb _) (aa.gd (aU hk hL) ⟨_,rfl,?_,trivial⟩)
  rw [e3];rfl
 ·exact aa.br (fun h=>absurd cq (by rw [h];simp)) (fun _=>⟨_,rfl,YF YS a.2.2.1⟩)
 ·match y,hy with
  | .inl ((r,u1),u2),e=>
   have e:r=T6 a:=e
   subst e
   exact ⟨_,rfl,rfl⟩
def MJ (L:List dc):Prop:=L.length≤1000000∧∀a∈L,YU a
def YB (L:List dc):Int:=Yt T6 L
def a07 (L:List dc) (n:Int) (h:MJ L):a0i ((L,n,()),())=some (YB L,()):=by
 refine aa.of_eq (Q:=fun _=>True) (aa.of (a0D ((L,n,()),())) ?_)
 have hL:L.length≤9223372036854775807:=Nat.le_trans h.1 (by decide)
 have hb:(13000000:Int)*(L.length:Int)≤9223372036854775807:=by have:=h.1;omega
 refine aa.xb (aa.idx (Q:=fun z=>match z with | .inl y=>y.1.1=YB L | .inr y=>False) (fun k=>((Yt T6 (L.take k),L,((L.length:Nat):Int),(k:Int),()),(),())) (fun _=>True) L.length hL trivial (fun k hk _=>?_) (fun _=>?_) rfl) (fun y hy=>?_)
 ·have eg:L.getD (Int.toNat (k:Int)) cI=L[k]:=by rw [Int.toNat_natCast];exact bE hk
  refine aa.br (fun _=>?_) (fun h=>absurd (cr hk) (by rw [h];simp))
  refine aa.gd (b9 hk) (aa.gd (bf hk) ?_)
  have e2:OK (L.getD (Int.toNat (k:Int)) cI,())=some (T6 L[k],()):=by rw [eg];exact a01 _ (h.2 _ (List.getElem_mem hk))
  refine aa.gj e2 ?_
  have e3:=YC T6 L hk
  refine aa.gd (by rw [← e3];exact YW T6 (fun a ha=>Ze a (h.2 a ha)) (by decide) hb _) (aa.gd (aU hk hL) ⟨_,rfl,?_,trivial⟩)
  rw [e3];rfl
 ·exact aa.br (fun h=>absurd cq (by rw [h];simp)) (fun _=>⟨_,rfl,YF T6 L⟩)
 ·match y,hy with
  | .inl ((r,u1),u2),e=>
   have e:r=YB L:=e
   subst e
   exact ⟨_,rfl,rfl⟩
def ZB (L:List dc) (h:MJ L):a0v (L,())=some (YB L,()):=(a0B (L,())).trans (aY (a07 L 0 h))
def e_b {b:Bool} {A:Prop} (h:b=true↔A):(b==true)=true↔A:=by rw [← h];cases b <;> simp
def a02 (per:Int):Mf:=(1,0,0,per,0,0,0,0,())
def ZG (c:Mf) (L:List dc) (h:MJ L):Says (a03 (c,L,())) (Aq c∧Ag (L,0,()) 0 (a02 c.2.2.2.1)∧YB L≤c.2.2.1):=
 aa.of (a0r (c,L,())) (Says.xb (MU c) fun b hb=>Says.GC (OR hb) fun _=>Says.xb (PR (L,0,()) 0 (a02 c.2.2.2.1) h.1 fun a ha=>(h.2 a ha).1) fun b2 hb2=>Says.iG (e_b hb2) fun _=>aa.gj (ZB L h) (Says.of LA))
def P13 (per:Int) (L:List dc) (i:Nat):Prop:=CF (mz L i) per∧¬ ER (mz L i)∧(0<i→(mz L (i - 1)).1<(mz L i).1)
def Zj {s:Int} (h0:0≤s) (h1:s≤255):mL.fE s 1=0:=by
 unfold mL.fE
 rw [if_pos ⟨h0,h1,by decide,by decide⟩]
 exact Int.emod_one _
def ZY {c:Mf} {L:List dc} {T:Int} (h:Aq c∧T≤c.2.2.1∧∀i,i<L.length→P13 c.2.2.2.1 L i):Aq c∧Ag (L,0,()) 0 (a02 c.2.2.2.1)∧T≤c.2.2.1:=
 ⟨h.1,⟨Int.le_refl 0,by show (0:Int)≤1099511627776;decide,fun i hi=>⟨(h.2.2 i hi).1,(h.2.2 i hi).2.1,Zj (h.2.2 i hi).1.1 (h.2.2 i hi).1.2.1,(h.2.2 i hi).2.2⟩⟩,h.2.1⟩
end Go.Proofs.YtdbjakibneeeiaaGreatDoor.Ex
namespace Go.Proofs.YtdbjakibneeeiaaGreatDoor.Ex
open Go.RowKit Sx Rn queue
abbrev PoA:List Sh:=[Q_3,.row Q_2,Q_4]
abbrev PoR:List Sh:=[.row Q_2,Q_7,.row Q_8]
def ZF (x:af PoA):Den Q_6:=(x.1,((x.2.1,(0:Int),()):Den Q_5),x.2.2.1,())
def isT (k:Int):Bool:=k==5
def ZQ (k:Int):k=5∨isT k=false:=by
 by_cases h:k=5
 ·exact .inl h
 ·exact .inr (beq_false_of_ne h)
@[irreducible] def YY (x:af PoA):Option (af PoR):=
 bif isT x.2.2.1.1 then xb (a03 (x.1,x.2.1,())) fun b=>az b.1 (a0j (ZF x,())) (a0h (ZF x,(1:Int),())) else none
def s_O:bI:=⟨PoA,PoR,YY⟩
def ZH {R:Type} {c:Bool} {x y:Option R} {r:R} (hc:c=false) (h:az c x y=some r):y=some r:=by subst hc;exact h
def Zo {R:Type} {c:Bool} {x y:Option R} {r:R} (hc:c=true) (h:az c x y=some r):x=some r:=by subst hc;exact h
def Zy {R:Type} {k:Int} {o:Option R} {r:R} (h:(bif isT k then o else none)=some r):k=5∧o=some r:=by
 rcases ZQ k with rfl | hk
 ·exact ⟨rfl,h⟩
 ·rw [hk] at h;cases h
def Zz (x:af PoA) (r:af PoR) (h:YY x=some r):x.2.2.1.1=(5:Int)∧((s_U.F (x.1,x.2.1,())=some (false,())∧s_V.F (ZF x,(1:Int),())=some r)∨(s_U.F (x.1,x.2.1,())=some (true,())∧s_Y.F (ZF x,())=some r)):=by
 unfold YY at h
 obtain ⟨hk,h⟩:=Zy h
 refine ⟨hk,?_⟩
 obtain ⟨⟨b,u⟩,hc,h⟩:=fh.1 h
 cases b with
 | false=>exact .inl ⟨hc,ZH rfl h⟩
 | true=>exact .inr ⟨hc,Zo rfl h⟩
def Z9 {W:World} {Q:Ending→World→Prop} {ds:List Deferred} {args:List Sx.T} {m:M} {k:Value→List Fact→Tree} {C:Cf} {O:Oq} {a:Option Addr} {n c:Nat} (hv:aH args=some [KP C a n c O])
  (h:∀q,W.heap.size≤q→(k (.map (some q)) [bL q (Rn.gU (KP C a n c O))]).aD Tryz.prog W none Q ds):(Tree.call 58 args m k).aD Tryz.prog W none Q ds:=
 ⟨by kernel_rfl,fun β ρ w us hM hr=>by
  rw [aE _ _ _ hv hr]
  refine (Rn.ways C O a n c w).mono ?_
  rintro e w' ⟨q,he,hb,hf⟩
  refine ⟨_,_,he,hb,fun φ hφ g hg=>?_,h q ?_⟩
  ·obtain ⟨h1,h2⟩:=hf φ hφ g hg
   exact ⟨.inr (.inl h1),h2⟩
  ·exact Nat.le_trans hM.below.size (hf _ (.head _) q rfl).1⟩
def ZI {R:Option Addr→List Value→Prop} {c:Den Q_3} {L:Den (.row Q_2)} {o:Den Q_4} {a:Option Addr} {n cc:Nat} (h:fY R (.row Q_2) L (.slice a n cc)) :
  fY R Q_6 (c,((L,(0:Int),()):Den Q_5),o,()) (KP ⟨c.1,c.2.1,c.2.2.1,c.2.2.2.1,c.2.2.2.2.1,c.2.2.2.2.2.1,c.2.2.2.2.2.2.1,c.2.2.2.2.2.2.2.1⟩ a n cc ⟨o.1,o.2.1,o.2.2.1,o.2.2.2.1,o.2.2.2.2.1⟩):=by
 obtain ⟨a',n',c',xs,e,h1⟩:=h
 have e:(Value.slice a n cc)=.slice a' n' c':=by simpa using e
 cases e
 refine ⟨_,rfl,[_,_,_,_,_,_,_,_],_,rfl,⟨[_],_,rfl,rfl,[_],_,rfl,rfl,[_],_,rfl,rfl,[_],_,rfl,rfl,[_],_,rfl,rfl,[_],_,rfl,rfl,[_],_,rfl,rfl,[_],[],rfl,rfl,rfl⟩,[_,_],_,rfl,⟨[_],[_],rfl,⟨a,n,cc,xs,rfl,h1⟩,[_],[],rfl,rfl,rfl⟩,[_,_,_,_,_],[],rfl,⟨[_],_,rfl,rfl,[_],_,rfl,rfl,[_],_,rfl,rfl,[_],_,rfl,rfl,[_],[],rfl,rfl,rfl⟩,rfl⟩
def Z8:s_O.fG.Ok Tryz.prog txn.bA 28:=by
 intro O w x vs hw hp hl
 have hp:(YY x).isSome=true:=hp
 obtain ⟨r,hr⟩:=Option.isSome_iff_exists.1 hp
 obtain ⟨gs,h1,h2⟩:=cn.got hl
 have hN:=(CL (W:=w) h2).VY
 have h1:=cn.mono CA h1
 have hB:∀w',Below w.heap.size w w'→txn.bA w':=fun w' h=>hw.later h
 have hF:s_O.fG.F x=r:=(wO hr).2
 rw [hF]
 have hd:=Zz x r hr
 clear hF hp hr
 obtain ⟨c,L,o,u⟩:=x
 obtain ⟨y1,us1,rfl,k1,y2,us2,rfl,k2,y3,us3,rfl,k3,k4⟩:=h1
 have k4:us3=[]:=k4
 subst k4
 obtain ⟨sl,e1,e2⟩:=iM k1
 obtain rfl:sl=[]:=List.eq_nil_of_length_eq_zero e1
 obtain ⟨sl,e3,e4⟩:=iM k3
 obtain rfl:sl=[]:=List.eq_nil_of_length_eq_zero e3
 have k2':=k2
 obtain ⟨a,n,cc,xs,e5,q2⟩:=k2
 have e5:y2=.slice a n cc:=by simpa using e5
 subst e2 e4 e5
 obtain ⟨g1,g2,g3,g4,g5,g6,g7,g8,u4⟩:=c
 obtain ⟨ok,os,on,og,od,u5⟩:=o
 obtain ⟨r1,⟨re,⟨ts,tn,tt,tc,tg,td,v1⟩,tx,rn,v2⟩,r3,v3⟩:=r
 have hA:=ZI (c:=(g1,g2,g3,g4,g5,g6,g7,g8,u4)) (o:=(ok,os,on,og,od,u5)) k2'
 obtain ⟨hk,hd⟩:=hd
 have hk:@Eq Int ok 5:=hk
 subst hk
 refine au gI.aq.keeps.a0f Tryz.func28 rfl [(2,(Zw [0,2,3,1,4,5,6,7,8,9] [4],[]))] (aQ _ _ (by kernel_rfl)) (gm::gs) (fun φ hφ g hg=>by
  rcases List.mem_cons.1 hφ with rfl | hφ
  ·cases hg
  ·obtain ⟨a,ys,rfl,h3,h4⟩:=h2 φ hφ;exact h3 g hg) ?_
 conv=>arg 5;whnf
 refine Z9 (C:=⟨g1,g2,g3,g4,g5,g6,g7,g8⟩) (O:=⟨5,os,on,og,od⟩) (a:=a) (n:=n) (c:=cc) rfl (fun q hq=>?_)
 conv=>arg 5;whnf
 refine ct (z:=.nilFunc) (l:=Rn.gU (KP ⟨g1,g2,g3,g4,g5,g6,g7,g8⟩ a n cc ⟨5,os,on,og,od⟩)) Tryz.underlying127 Tryz.underlying3 (fun w=>by kernel_rfl) (.head _) ?_
 rcases hd with ⟨hc,hr⟩ | ⟨hc,hm⟩
 ·skip
  as_aux_lemma=>
   conv=>arg 5;whnf
   refine wu (S:=s_U) hc (vM (by kernel_rfl)) hB (ow hq _ hN) ⟨_,_,rfl,k1.mono fun a xs h=>h.mono fun φ hφ=>List.Mem.tail _ hφ,_,_,rfl,k2'.mono fun a xs h=>h.mono fun φ hφ=>List.Mem.tail _ hφ,rfl⟩ rfl (fun us gs1 hu hN1=>?_)
   obtain ⟨y,us,rfl,q1,q3⟩:=hu
   have q1:y=.bool false:=q1
   have q3:us=[]:=q3
   subst q1 q3
   conv=>arg 5;whnf
   refine wu (S:=s_V) hr (vM (by kernel_rfl)) hB (hN1.app (ow hq _ hN)) ⟨_,_,rfl,hA.mono fun a xs h=>h.mono fun φ hφ=>List.mem_append_right (gm::gs1) (List.Mem.tail _ hφ),_,_,rfl,rfl,rfl⟩ rfl (fun us gs2 hu hN2=>?_)
   obtain ⟨y1,us,rfl,q4,y2,us,rfl,q5,y3,us,rfl,q6,q7⟩:=hu
   have q7:us=[]:=q7
   subst q7
   obtain ⟨sl,e5,e6⟩:=iM q5
   obtain ⟨⟨b1,m1,d1⟩,rfl⟩:=List.length_eq_one_iff.1 (show sl.length=1 from e5)
   have q4':=q4
   have q6':=q6
   obtain ⟨b4,m4,d4,xs4,e7,_⟩:=q4'
   obtain ⟨b5,m5,d5,xs5,e8,_⟩:=q6'
   have e7:y1=.slice b4 m4 d4:=by simpa using e7
   have e8:y3=.slice b5 m5 d5:=by simpa using e8
   subst e6 e7 e8
   conv=>arg 5;whnf
   exact av fun β ρ w' hM'=>⟨[_,_,_],rfl,hM'.below,C5 hM' (hN2.app (hN1.app (ow hq _ hN))) ⟨_,_,rfl,q4.mono fun a xs h=>h.mono fun φ hφ=>List.mem_append_left _ hφ,_,_,rfl,q5.mono fun a xs h=>h.mono fun φ hφ=>List.mem_append_left _ hφ,_,_,rfl,q6.mono fun a xs h=>h.mono fun φ hφ=>List.mem_append_left _ hφ,rfl⟩⟩
 ·skip
  as_aux_lemma=>
   conv=>arg 5;whnf
   refine wu (S:=s_U) hc (vM (by kernel_rfl)) hB (ow hq _ hN) ⟨_,_,rfl,k1.mono fun a xs h=>h.mono fun φ hφ=>List.Mem.tail _ hφ,_,_,rfl,k2'.mono fun a xs h=>h.mono fun φ hφ=>List.Mem.tail _ hφ,rfl⟩ rfl (fun us gs1 hu hN1=>?_)
   obtain ⟨y,us,rfl,q1,q3⟩:=hu
   have q1:y=.bool true:=q1
   have q3:us=[]:=q3
   subst q1 q3
   conv=>arg 5;whnf
   refine opE (N:=O) hm (vM (by kernel_rfl)) rfl rfl rfl hB (hN1.app (ow hq _ hN)) ⟨_,_,rfl,hA.mono fun a xs h=>h.mono fun φ hφ=>List.mem_append_right (gm::gs1) (List.Mem.tail _ hφ),rfl⟩ (fun us gs2 hu hN2=>?_)
   obtain ⟨y1,us,rfl,q4,y2,us,rfl,q5,y3,us,rfl,q6,q7⟩:=hu
   have q7:us=[]:=q7
   subst q7
   obtain ⟨sl,e5,e6⟩:=iM q5
   obtain ⟨⟨b1,m1,d1⟩,rfl⟩:=List.length_eq_one_iff.1 (show sl.length=1 from e5)
   have q4':=q4
   have q6':=q6
   obtain ⟨b4,m4,d4,xs4,e7,_⟩:=q4'
   obtain ⟨b5,m5,d5,xs5,e8,_⟩:=q6'
   have e7:y1=.slice b4 m4 d4:=by simpa using e7
   have e8:y3=.slice b5 m5 d5:=by simpa using e8
   subst e6 e7 e8
   conv=>arg 5;whnf
   exact av fun β ρ w' hM'=>⟨[_,_,_],rfl,hM'.below,C5 hM' (hN2.app (hN1.app (ow hq _ hN))) ⟨_,_,rfl,q4.mono fun a xs h=>h.mono fun φ hφ=>List.mem_append_left _ hφ,_,_,rfl,q5.mono fun a xs h=>h.mono fun φ hφ=>List.mem_append_left _ hφ,_,_,rfl,q6.mono fun a xs h=>h.mono fun φ hφ=>List.mem_append_left _ hφ,rfl⟩⟩
def tI:EE:={ tC with sm:=(28,s_O)::tC.sm }
def a06:tI.gM.nq gI.env Tryz.prog txn.bA EN:=EE.cP a08 (by kernel_rfl) (S:=s_O) Z8
end Go.Proofs.YtdbjakibneeeiaaGreatDoor.Ex

namespace Go.Proofs.YtdbjakibneeeiaaGreatDoor.queue
open Go.RowKit Sx txn
def Zp:H8.fG.Ok Tryz.prog bA 33:=by
 intro O w x vs hw hp hl
 obtain ⟨t,u⟩:=x
 obtain ⟨y,us,rfl,h1,h3⟩:=hl
 have h1:=J4 h1
 have h3:us=[]:=h3
 subst h1 h3
 have hp:(bif decide ((cz t).d.size≤maxLen) then some ((⟨(fH (cz t)).toArray⟩,(cz t).ok,()):af [.str,.bool]) else none).isSome=true:=hp
 cases hd:decide ((cz t).d.size≤maxLen) with
 | false=>rw [hd] at hp;cases hp
 | true=>
  have hF:H8.fG.F (t,u)=(⟨(fH (cz t)).toArray⟩,(cz t).ok,()):=by
   show (bif decide ((cz t).d.size≤maxLen) then some ((⟨(fH (cz t)).toArray⟩,(cz t).ok,()):af [.str,.bool]) else none).getD _=_
   rw [hd];rfl
  refine (Ib (cz t) w (of_decide_eq_true hd)).mono ?_
  rintro e w' ⟨rfl,hb⟩
  refine ⟨[_,_],rfl,hb,?_⟩
  rw [hF]
  exact ⟨_,_,rfl,rfl,_,_,rfl,rfl,rfl⟩
end Go.Proofs.YtdbjakibneeeiaaGreatDoor.queue
namespace Go.Proofs.YtdbjakibneeeiaaGreatDoor.Ex.d
open Go.RowKit Sx
@[irreducible] def IZ (x:af [z0]):Option (af [.str,.bool]):=(queue.H8:bI).F x
def Tv:bI:=⟨[z0],[.str,.bool],IZ⟩
def s_W:Tv=(queue.H8:bI):=congrArg (bI.mk _ _) (funext fun x=>by unfold IZ;rfl)
def SZ:EE:={ tI with sm:=(33,Tv)::tI.sm }
def SY:SZ.gM.nq gI.env Tryz.prog txn.bA EN:=EE.cP a06 (by kernel_rfl) (S:=Tv) (by rw [s_W];exact queue.Zp)
def h_12:FH:=⟨[],[],[],[]⟩
@[irreducible] def YT (x:af [z0]):Option (af [.int]):=Tr Tryz.prog EN SZ h_12 180 [z0] [.int] x
def s_P:bI:=⟨[z0],[.int],YT⟩
def Z3:EE:={ SZ with sm:=(180,s_P)::SZ.sm }
def ZR:Z3.gM.nq gI.env Tryz.prog txn.bA EN:=EE.xT SY rfl hB (by kernel_rfl) (H:=h_12) (congrArg (bI.mk _ _) (funext fun x=>by unfold YT;rfl))
def h_13:FH:=⟨[],[(3,⟨[],0,⟨[.any,.p 0 0,.any,.d .int,.d .int]++an 16 [],[some ([.d z1],90)],[]⟩,[(.exit 0,⟨an 3 ([.d .int]++an 17 []),[],[]⟩)]⟩)],[],[]⟩
@[irreducible] def YV (x:af [z1]):Option (af [.int]):=Tr Tryz.prog EN Z3 h_13 147 [z1] [.int] x
def s_Q:bI:=⟨[z1],[.int],YV⟩
def Z4:EE:={ Z3 with sm:=(147,s_Q)::Z3.sm }
def ZP:Z4.gM.nq gI.env Tryz.prog txn.bA EN:=EE.xT ZR rfl hB (by kernel_rfl) (H:=h_13) (congrArg (bI.mk _ _) (funext fun x=>by unfold YV;rfl))
def h_14:FH:=⟨[],[(3,⟨[],0,⟨[.any,.p 0 0,.any,.d .int,.d .int]++an 16 [],[some ([.d z4],84)],[]⟩,[(.exit 0,⟨an 3 ([.d .int]++an 17 []),[],[]⟩)]⟩)],[],[]⟩
@[irreducible] def Z0 (x:af [z4]):Option (af [.int]):=Tr Tryz.prog EN Z4 h_14 107 [z4] [.int] x
def s_R:bI:=⟨[z4],[.int],Z0⟩
def Z5:EE:={ Z4 with sm:=(107,s_R)::Z4.sm }
def ZV:Z5.gM.nq gI.env Tryz.prog txn.bA EN:=EE.xT ZP rfl hB (by kernel_rfl) (H:=h_14) (congrArg (bI.mk _ _) (funext fun x=>by unfold Z0;rfl))
def h_15:FH:=⟨[],[],[],[]⟩
@[irreducible] def YQ (x:af [(.row z1)]):Option (af [.int]):=Tr Tryz.prog EN Z5 h_15 61 [(.row z1)] [.int] x
def s_S:bI:=⟨[(.row z1)],[.int],YQ⟩
def Z1:EE:={ Z5 with sm:=(61,s_S)::Z5.sm }
def ZN:Z1.gM.nq gI.env Tryz.prog txn.bA EN:=EE.xT ZV rfl hB (by kernel_rfl) (H:=h_15) (congrArg (bI.mk _ _) (funext fun x=>by unfold YQ;rfl))
def h_16:FH:=⟨[(1,(line [0,1,2,3,4,6,7,5,8,9],[])),(6,(line [0,1,2,3,4,5,6,7,8,9,10,11,12,13,14,15,16,17,18,19,20,21,22,23,24,25,26,27,28,29,30,31,32,33,34,35,36,37,38,39,40,41,42],[]))],[(4,⟨[],0,⟨[.any,.d (.row z1),.p 0 0,.any,.any,.d .int]++an 59 [],[some ([.d z2],34)],[]⟩,[(.ret,⟨an 4 ([.d .bool]++an 60 []),[],[]⟩),(.exit 0,⟨an 65 [],[],[]⟩)]⟩)],[],[]⟩
@[irreducible] def YM (x:af [z2,(.row z1)]):Option (af [.bool]):=Tr Tryz.prog EN Z1 h_16 29 [z2,(.row z1)] [.bool] x
def s_T:bI:=⟨[z2,(.row z1)],[.bool],YM⟩
def Yx:EE:={ Z1 with sm:=(29,s_T)::Z1.sm }
def ZT:Yx.gM.nq gI.env Tryz.prog txn.bA EN:=EE.xT ZN rfl hB (by kernel_rfl) (H:=h_16) (congrArg (bI.mk _ _) (funext fun x=>by unfold YM;rfl))
def h_17:FH:=⟨[(10,(p9 [0,2,3,5,6,7,8] (.fork3 1 (.fork3 4 (.fork3 9 (p9 [10,11,12] (.fork 13 (aK [14] [15,16]) 14 (aK [13] [15,16]))) 13 (.fork 9 (aK [10,11,12,14] [15,16]) 14 (aK [9,10,11,12] [15,16])) 14 (.fork 9 (aK [10,11,12,13] [15,16]) 13 (aK [9,10,11,12] [15,16]))) 13 (.fork 4 (.fork 9 (aK [10,11,12,14] [15,16]) 14 (aK [9,10,11,12] [15,16])) 14 (aK [4,9,10,11,12] [15,16])) 14 (.fork 4 (.fork 9 (aK [10,11,12,13] [15,16]) 13 (aK [9,10,11,12] [15,16])) 13 (aK [4,9,10,11,12] [15,16]))) 13 (.fork 1 (.fork 4 (.fork 9 (aK [10,11,12,14] [15,16]) 14 (aK [9,10,11,12] [15,16])) 14 (aK [4,9,10,11,12] [15,16])) 14 (aK [1,4,9,10,11,12] [15,16])) 14 (.fork 1 (.fork 4 (.fork 9 (aK [10,11,12,13] [15,16]) 13 (aK [9,10,11,12] [15,16])) 13 (aK [4,9,10,11,12] [15,16])) 13 (aK [1,4,9,10,11,12] [15,16]))),[])),(12,(line [0,1,2,3,4,6,5,7,8,9,10,11,12],[])),(13,(line [0,1,2,3,4,5,6,7,8,9,10,11,12,13,14,15,17,16,18,19,20,21,22,23],[]))],[(4,⟨[],0,⟨[.d .int,.d .int]++an 3 ([.p 0 0,.any,.d .int]++an 99 []),[some ([.d z5],38)],[]⟩,[(.ret,⟨an 6 ([.d .bool]++an 100 []),[],[]⟩),(.exit 0,⟨[.d .int,.d .int]++an 3 ([.p 0 0]++an 101 []),[some ([.d z5],38)],[]⟩)]⟩)],[],[(10,⟨an 5 ([.p 0 0,.any,.any,.d (.row z1),.any,.p 1 0,.any,.p 2 0,.p 3 0]++an 93 []),[some ([.d z5],38),some ([.d z6],48),some ([.d z7],50),some ([.d z5],46)],[]⟩)]⟩
@[irreducible] def Zg (x:af [.int,.int,z5]):Option (af [.bool]):=Tr Tryz.prog EN Yx h_17 4 [.int,.int,z5] [.bool] x
def s_X:bI:=⟨[.int,.int,z5],[.bool],Zg⟩
def a0y:EE:={ Yx with sm:=(4,s_X)::Yx.sm }
def a0Y:a0y.gM.nq gI.env Tryz.prog txn.bA EN:=EE.xT ZT rfl hB (by kernel_rfl) (H:=h_17) (congrArg (bI.mk _ _) (funext fun x=>by unfold Zg;rfl))
end Go.Proofs.YtdbjakibneeeiaaGreatDoor.Ex.d
namespace Go.Proofs.YtdbjakibneeeiaaGreatDoor.Ex.d
open Go.RowKit Sx
def a0Q (x:(Y2×((List Y1)×Unit))):YM x =
 xb (Fg (x.1,())) (fun (y0:(Bool×Unit))=>az ((!y0.1)==false) (xb (YQ x.2) (fun (y1:(Int×Unit))=>az (decide (y1.1>x.1.2.2.1)) (some (false,())) (xb (b6 (S:=(Y4×(((Y2×Unit)×Unit)×Unit))) (R:=(((Bool×Unit)×(Unit×Unit)) ⊕ ((Unit×(Unit×Unit)) ⊕ Empty))) (fun (s2:(Y4×(((Y2×Unit)×Unit)×Unit)))=>az (decide (s2.1.2.1<(((List.length s2.1.1):Nat):Int))) (gd (di s2.1.2.1 (List.length s2.1.1)) (gd (decide ((Int.toNat s2.1.2.1)<(List.length s2.1.1))) (xb (MH ((List.getD s2.1.1 (Int.toNat s2.1.2.1) ((0:Int),((0:Int),([],())))),(s2.2.1.1.1.2.2.2.1,()))) (fun (y3:(Bool×Unit))=>az ((!y3.1)==false) (gd (di s2.1.2.1 (List.length s2.1.1)) (gd (decide ((Int.toNat s2.1.2.1)<(List.length s2.1.1))) (az (((List.getD s2.1.1 (Int.toNat s2.1.2.1) ((0:Int),((0:Int),([],())))).2.1==(0:Int))==true) (gd (di s2.1.2.1 (List.length s2.1.1)) (gd (decide ((Int.toNat s2.1.2.1)<(List.length s2.1.1))) (az (((((List.length (List.getD s2.1.1 (Int.toNat s2.1.2.1) ((0:Int),((0:Int),([],())))).2.2.1):Nat):Int)==(0:Int))==false) (az ((decide (s2.1.2.1>(0:Int)))==true) (gd (dx (s2.1.2.1 - (1:Int))) (gd (di (s2.1.2.1 - (1:Int)) (List.length s2.1.1)) (gd (decide ((Int.toNat (s2.1.2.1 - (1:Int)))<(List.length s2.1.1))) (gd (di s2.1.2.1 (List.length s2.1.1)) (gd (decide ((Int.toNat s2.1.2.1)<(List.length s2.1.1))) (az (decide ((List.getD s2.1.1 (Int.toNat (s2.1.2.1 - (1:Int))) ((0:Int),((0:Int),([],())))).1≥(List.getD s2.1.1 (Int.toNat s2.1.2.1) ((0:Int),((0:Int),([],())))).1)) (some (.inr (.inl ((false,()),((),()))))) (gd (dx (s2.1.2.1+(1:Int))) (some (.inl ((s2.1.1,((s2.1.2.1+(1:Int)),())),s2.2)))))))))) (gd (dx (s2.1.2.1+(1:Int))) (some (.inl ((s2.1.1,((s2.1.2.1+(1:Int)),())),s2.2))))) (some (.inr (.inl ((false,()),((),())))))))) (az ((decide (s2.1.2.1>(0:Int)))==true) (gd (dx (s2.1.2.1 - (1:Int))) (gd (di (s2.1.2.1 - (1:Int)) (List.length s2.1.1)) (gd (decide ((Int.toNat (s2.1.2.1 - (1:Int)))<(List.length s2.1.1))) (gd (di s2.1.2.1 (List.length s2.1.1)) (gd (decide ((Int.toNat s2.1.2.1)<(List.length s2.1.1))) (az (decide ((List.getD s2.1.1 (Int.toNat (s2.1.2.1 - (1:Int))) ((0:Int),((0:Int),([],())))).1≥(List.getD s2.1.1 (Int.toNat s2.1.2.1) ((0:Int),((0:Int),([],())))).1)) (some (.inr (.inl ((false,()),((),()))))) (gd (dx (s2.1.2.1+(1:Int))) (some (.inl ((s2.1.1,((s2.1.2.1+(1:Int)),())),s2.2)))))))))) (gd (dx (s2.1.2.1+(1:Int))) (some (.inl ((s2.1.1,((s2.1.2.1+(1:Int)),())),s2.2)))))))) (some (.inr (.inl ((false,()),((),()))))))))) (some (.inr (.inr (.inl ((),((),()))))))) bn ((x.2.1,((0:Int),())),(((x.1,()),()),()))) (fun (y4:(((Bool×Unit)×(Unit×Unit)) ⊕ ((Unit×(Unit×Unit)) ⊕ Empty)))=>xs y4 (fun (y5:((Bool×Unit)×(Unit×Unit)))=>some y5.1) (fun (y6:((Unit×(Unit×Unit)) ⊕ Empty))=>xs y6 (fun (y7:(Unit×(Unit×Unit)))=>some (true,())) (fun (y8:Empty)=>xe y8)))))) (some (false,()))):=by kernel_rfl
def a0m (x:((List Y1)×Unit)):YQ x =
 xb (Z0 ((x.1,((0:Int),())),())) (fun (y0:(Int×Unit))=>some y0):=by kernel_rfl
def a0L (x:(Y4×Unit)):Z0 x =
 xb (b6 (S:=(Y3×(((Y4×Unit)×Unit)×Unit))) (R:=(((Int×Unit)×(Unit×Unit)) ⊕ Empty)) (fun (s0:(Y3×(((Y4×Unit)×Unit)×Unit)))=>az (decide (s0.1.2.1<(((List.length s0.2.1.1.1.1):Nat):Int))) (gd (di s0.1.2.1 (List.length s0.2.1.1.1.1)) (gd (decide ((Int.toNat s0.1.2.1)<(List.length s0.2.1.1.1.1))) (xb (YV ((List.getD s0.2.1.1.1.1 (Int.toNat s0.1.2.1) ((0:Int),((0:Int),([],())))),())) (fun (y1:(Int×Unit))=>gd (dx (s0.1.1+y1.1)) (gd (dx (s0.1.2.1+(1:Int))) (some (.inl (((s0.1.1+y1.1),((s0.1.2.1+(1:Int)),())),s0.2)))))))) (some (.inr (.inl ((s0.1.1,()),((),())))))) bn (((0:Int),((0:Int),())),((x,()),()))) (fun (y2:(((Int×Unit)×(Unit×Unit)) ⊕ Empty))=>xs y2 (fun (y3:((Int×Unit)×(Unit×Unit)))=>some y3.1) (fun (y4:Empty)=>xe y4)):=by kernel_rfl
def a0H (x:(Y1×Unit)):YV x =
 xb (b6 (S:=(Y3×(((Y1×Unit)×Unit)×Unit))) (R:=(((Int×Unit)×(Unit×Unit)) ⊕ Empty)) (fun (s0:(Y3×(((Y1×Unit)×Unit)×Unit)))=>az (decide (s0.1.2.1<(((List.length s0.2.1.1.1.2.2.1):Nat):Int))) (gd (di s0.1.2.1 (List.length s0.2.1.1.1.2.2.1)) (gd (decide ((Int.toNat s0.1.2.1)<(List.length s0.2.1.1.1.2.2.1))) (xb (YT ((List.getD s0.2.1.1.1.2.2.1 (Int.toNat s0.1.2.1) ((0:Int),((0:Int),((0:Int),((0:Int),((0:Int),(ByteArray.empty,()))))))),())) (fun (y1:(Int×Unit))=>gd (dx (s0.1.1+y1.1)) (gd (dx (s0.1.2.1+(1:Int))) (some (.inl (((s0.1.1+y1.1),((s0.1.2.1+(1:Int)),())),s0.2)))))))) (some (.inr (.inl ((s0.1.1,()),((),())))))) bn (((0:Int),((0:Int),())),((x,()),()))) (fun (y2:(((Int×Unit)×(Unit×Unit)) ⊕ Empty))=>xs y2 (fun (y3:((Int×Unit)×(Unit×Unit)))=>some y3.1) (fun (y4:Empty)=>xe y4)):=by kernel_rfl
def a0J (x:(Y0×Unit)):YT x =
 xb (IZ x) (fun (y0:(ByteArray×(Bool×Unit)))=>az (!y0.2.1) (some ((0:Int),())) (xb (Zf ((((ByteArray.size y0.1):Nat):Int),())) (fun (y1:(Int×Unit))=>some y1))):=by kernel_rfl
end Go.Proofs.YtdbjakibneeeiaaGreatDoor.Ex.d
end
