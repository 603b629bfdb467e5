/- Layer 18 (snap), purely: marks and points; which locks he holds. -/
import Derived.Test.YtdbjakibneeeiaaGreatDoorKG38ExPf
set_option linter.all false
set_option maxHeartbeats 4000000
set_option maxRecDepth 100000
namespace Go.Proofs.YtdbjakibneeeiaaGreatDoor.Ex
open Go.RowKit Sx
def JV {x:Int} (h0 : -9223372036854775808≤x+1) (h1:x+1≤9223372036854775807):IntKind.wrap IntKind.i64 (x+(1:Int))=x+1:=by rw [IntKind.wrap_i64];omega
def g9 (v:cU) (n:Int):(v.2.2.1+1=n∧cm v n=(v.1,v.2.1+1,0,v.2.2.2))∨(v.2.2.1+1≠n∧cm v n=(v.1,v.2.1,v.2.2.1+1,v.2.2.2)):=by
 unfold cm
 cases h:(v.2.2.1+1==n) with
 | true=>exact .inl ⟨eq_of_beq (α:=Int) h,rfl⟩
 | false=>exact .inr ⟨ne_of_beq_false (α:=Int) h,rfl⟩
def tf (v:cU) (h0:0≤v.2.2.2.1) (h1:v.2.2.2.1≤2):(2≤v.2.2.2.1+1∧dn v=(v.1,3,0,v.2.2.2.1+1,[],[],v.2.2.2.2.2.2))∨(v.2.2.2.1+1<2∧dn v=(v.1,0,0,v.2.2.2.1+1,[],[],v.2.2.2.2.2.2)):=by
 have e:IntKind.wrap IntKind.i64 (v.2.2.2.1+(1:Int))=v.2.2.2.1+1:=JV (by omega) (by omega)
 unfold dn
 rw [e]
 by_cases h:v.2.2.2.1+1≥2
 ·rw [decide_eq_true h];exact .inl ⟨h,rfl⟩
 ·rw [decide_eq_false h];exact .inr ⟨by omega,rfl⟩
def jN (u:cU):(u.2.1≠2∧∃r,fT u=(u.1,6,u.2.2.1,u.2.2.2.1,u.2.2.2.2.1,u.2.2.2.2.2.1,r))∨(u.2.1=2∧fT u=u):=by
 unfold fT
 cases h:(u.2.1 != (2:Int)) with
 | true=>exact .inl ⟨by simpa using h,_,rfl⟩
 | false=>exact .inr ⟨by simpa using h,rfl⟩
def nR (v:cU) (w:Int) (s:P_2) (hp:bG v w s) :
  (v.2.1=0∧aB v w s=(cm (kM v ((v.2.2.2.2.1:List Int)++[(gl s v.2.2.1).2.1])) s.1.1,s,0,()))∨(v.2.1=0∧aB v w s=(dn v,s,0,()))∨
  (v.2.1=1∧aB v w s=(cm (mP v ((v.2.2.2.2.2.1:List cQ)++[gl s v.2.2.1])) s.1.1,s,0,()))∨
  (v.2.1=2∧aB v w s=(fT (cm v s.1.1),s,(bif v.2.2.1==0 then 1 else 0),()))∨(v.2.1=2∧aB v w s=(dn v,s,(bif v.2.2.1==0 then 1 else 0),()))∨
  (v.2.1=3∧bT s.2.1 v.2.2.1=true∧aB v w s=(cm v s.1.1,(s.1,List.set s.2.1 v.2.2.1.toNat w,s.2.2),0,()))∨
  (v.2.1=4∧(∀k,k<List.length s.2.1→aM s.2.1 (k:Int) w=true)∧aB v w s=((v.1,5,0,v.2.2.2.1,v.2.2.2.2.1,v.2.2.2.2.2.1,nD s.2.2.2.1 v.1,()),s,2,()))∨
  (v.2.1=5∧(0≤v.2.2.1∧v.2.2.1<(List.length s.2.1:Int))∧aM s.2.1 v.2.2.1 w=true∧aB v w s=(cm v s.1.1,(s.1,List.set s.2.1 v.2.2.1.toNat (0:Int),s.2.2),0,())):=by
 rcases hp with ⟨h,h1,h2⟩ | ⟨h,h1,h2⟩ | ⟨h,h1,h2⟩ | ⟨h,h1⟩ | ⟨h,h1⟩ | ⟨h,⟨h1,h2⟩,h3⟩
 ·have e:aB v w s=(bif bT s.2.1 v.2.2.1 then cm (kM v ((v.2.2.2.2.1:List Int)++[(gl s v.2.2.1).2.1])) s.1.1 else dn v,s,0,()):=by unfold aB;rw [h];rfl
  rw [e]
  cases bT s.2.1 v.2.2.1 with
  | true=>exact .inl ⟨h,rfl⟩
  | false=>exact .inr (.inl ⟨h,rfl⟩)
 ·exact .inr (.inr (.inl ⟨h,by unfold aB;rw [h];rfl⟩))
 ·have e:aB v w s=(kE v s,s,bif v.2.2.1==0 then 1 else 0,()):=by unfold aB;rw [h];rfl
  rw [e]
  unfold kE
  cases nJ v s with
  | true=>exact .inr (.inr (.inr (.inl ⟨h,rfl⟩)))
  | false=>exact .inr (.inr (.inr (.inr (.inl ⟨h,rfl⟩))))
 ·exact .inr (.inr (.inr (.inr (.inr (.inl ⟨h,h1,by unfold aB;rw [h];rfl⟩)))))
 ·exact .inr (.inr (.inr (.inr (.inr (.inr (.inl ⟨h,h1,by unfold aB;rw [h];rfl⟩))))))
 ·exact .inr (.inr (.inr (.inr (.inr (.inr (.inr ⟨h,⟨h1,h2⟩,h3,by unfold aB;rw [h];rfl⟩))))))
def Cz {v:cU} {w:Int} {s:P_2} (hp:bG v w s):v.2.1=4∨(0≤v.2.2.1∧v.2.2.1<(List.length s.2.1:Int)):=by
 rcases hp with ⟨h,h1,h2⟩ | ⟨h,h1,h2⟩ | ⟨h,h1,h2⟩ | ⟨h,h1⟩ | ⟨h,h1⟩ | ⟨h,⟨h1,h2⟩,h3⟩
 ·exact .inr ⟨h1,h2⟩
 ·exact .inr ⟨h1,h2⟩
 ·exact .inr ⟨h1,h2⟩
 ·exact .inr (dA.1 (Bool.and_eq_true_iff.1 h1).1)
 ·exact .inl h
 ·exact .inr ⟨h1,h2⟩
def vq (m p ph at_ tr:Int):Prop:=0≤tr∧0≤m∧0≤p∧((0≤ph∧ph≤2∧tr≤1∧p=0∧(m≤tr∨(ph=2∧0<at_∧m≤tr+1)))∨((ph=3∨ph=4)∧m≤2∧p=0∧tr≤2)∨((ph=5∨ph=6)∧m≤2∧p≤1∧tr≤2))
def MJ (m p:Int) (v:cU):Prop:=vq m p v.2.1 v.2.2.1 v.2.2.2.1
def MJ.Ja {w:Int} {v:cU} {s:P_2} (hp:bG v w s) :
  ((aB v w s).2.2.1=0∧¬ (v.2.1=2∧v.2.2.1=0)∧v.2.1≠4)∨((aB v w s).2.2.1=1∧v.2.1=2∧v.2.2.1=0)∨((aB v w s).2.2.1=2∧v.2.1=4):=by
 have key:∀c:Int,v.2.1=2→(bif v.2.2.1==0 then (1:Int) else 0)=c→(c=0∧¬ (v.2.1=2∧v.2.2.1=0)∧v.2.1≠4)∨(c=1∧v.2.1=2∧v.2.2.1=0)∨(c=2∧v.2.1=4):=by
  intro c h e
  cases hb:(v.2.2.1==(0:Int)) with
  | true=>
   have:=eq_of_beq (α:=Int) hb
   rw [hb] at e
   have e:1=c:=e
   omega
  | false=>
   have:=ne_of_beq_false (α:=Int) hb
   rw [hb] at e
   have e:0=c:=e
   omega
 rcases nR v w s hp with ⟨h,e⟩ | ⟨h,e⟩ | ⟨h,e⟩ | ⟨h,e⟩ | ⟨h,e⟩ | ⟨h,_,e⟩ | ⟨h,_,e⟩ | ⟨h,_,_,e⟩
 all_goals rw [e]
 ·exact .inl ⟨rfl,by omega,by omega⟩
 ·exact .inl ⟨rfl,by omega,by omega⟩
 ·exact .inl ⟨rfl,by omega,by omega⟩
 ·exact key _ h rfl
 ·exact key _ h rfl
 ·exact .inl ⟨rfl,by omega,by omega⟩
 ·exact .inr (.inr ⟨rfl,h⟩)
 ·exact .inl ⟨rfl,by omega,by omega⟩
def Nj {m p ph a tr ph' a':Int} (h:vq m p ph a tr) (hp:ph=0∨ph=1) (hc:(ph'=ph+1∧a'=0)∨(ph'=ph∧a'=a+1)):vq m p ph' a' tr:=by
 unfold vq at *;omega
def E2 {m p ph a tr m' ph':Int} (h:vq m p ph a tr) (hp:ph≤2) (hm:m'=m∨(m'=m+1∧a=0)) (hc:(2≤tr+1∧ph'=3)∨(tr+1<2∧ph'=0)):vq m' p ph' 0 (tr+1):=by
 unfold vq at *;omega
def II {m p ph a tr m' ph' a':Int} (h:vq m p ph a tr) (hp:ph=2) (ha:0≤a) (hm:(m'=m∧a≠0)∨(m'=m+1∧a=0)) (hc:ph'=6∨(ph'=2∧a'=a+1)):vq m' p ph' a' tr:=by
 unfold vq at *;omega
def K0 {m p ph a tr ph' a':Int} (h:vq m p ph a tr) (hp:ph=3) (hc:ph'=ph+1∨ph'=ph):vq m p ph' a' tr:=by
 unfold vq at *;omega
def PD {m p ph a tr a':Int} (h:vq m p ph a tr) (hp:ph=4):vq m (p+1) 5 a' tr:=by
 unfold vq at *;omega
def JQ {m p ph a tr ph' a':Int} (h:vq m p ph a tr) (hp:ph=5) (hc:ph'=ph+1∨ph'=ph):vq m p ph' a' tr:=by
 unfold vq at *;omega
def rE (v:cU) (n:Int):((cm v n).2.1=v.2.1+1∧(cm v n).2.2.1=0∨(cm v n).2.1=v.2.1∧(cm v n).2.2.1=v.2.2.1+1)∧(cm v n).2.2.2.1=v.2.2.2.1:=by
 rcases g9 v n with ⟨_,e⟩ | ⟨_,e⟩ <;> rw [e]
 ·exact ⟨.inl ⟨rfl,rfl⟩,rfl⟩
 ·exact ⟨.inr ⟨rfl,rfl⟩,rfl⟩
def MJ.bound {m p:Int} {v:cU} (h:MJ m p v):0≤v.2.2.2.1∧v.2.2.2.1≤2:=by
 unfold MJ vq at h;omega
def MJ.step {m p w:Int} {v:cU} {s:P_2} (h:MJ m p v) (hp:bG v w s):MJ (m+if (aB v w s).2.2.1=1 then 1 else 0) (p+if (aB v w s).2.2.1=2 then 1 else 0) (aB v w s).1:=by
 have ha:=Cz hp
 obtain ⟨b0,b1⟩:=h.bound
 have no:∀c:Int,c=0→(m+if c=1 then 1 else 0)=m∧(p+if c=2 then 1 else 0)=p:=fun c e=>by subst e;simp
 have cmp:∀c:Int,(bif v.2.2.1==0 then (1:Int) else 0)=c→(((m+if c=1 then 1 else 0)=m∧v.2.2.1≠0)∨((m+if c=1 then 1 else 0)=m+1∧v.2.2.1=0))∧(p+if c=2 then 1 else 0)=p:=fun c e=>by
  cases hb:(v.2.2.1==(0:Int)) with
  | true=>
   have hz:=eq_of_beq (α:=Int) hb
   rw [hb] at e
   have e:1=c:=e
   subst e;simp [hz]
  | false=>
   have hz:=ne_of_beq_false (α:=Int) hb
   rw [hb] at e
   have e:0=c:=e
   subst e;simp [hz]
 have failed:∀m':Int,v.2.1≤2→(m'=m∨(m'=m+1∧v.2.2.1=0))→MJ m' p (dn v):=fun m' hq hm=>by
  rcases tf v b0 b1 with ⟨c,e⟩ | ⟨c,e⟩ <;> rw [e]
  ·exact E2 h hq hm (.inl ⟨c,rfl⟩)
  ·exact E2 h hq hm (.inr ⟨c,rfl⟩)
 rcases nR v w s hp with ⟨q,e⟩ | ⟨q,e⟩ | ⟨q,e⟩ | ⟨q,e⟩ | ⟨q,e⟩ | ⟨q,_,e⟩ | ⟨q,_,e⟩ | ⟨q,_,_,e⟩
 all_goals rw [e]
 ·rw [(no _ rfl).1,(no _ rfl).2]
  obtain ⟨o1,o2⟩:=rE (kM v ((v.2.2.2.2.1:List Int)++[(gl s v.2.2.1).2.1])) s.1.1
  unfold MJ
  rw [o2]
  exact Nj h (.inl q) o1
 ·rw [(no _ rfl).1,(no _ rfl).2]
  exact failed m (by omega) (.inl rfl)
 ·rw [(no _ rfl).1,(no _ rfl).2]
  obtain ⟨o1,o2⟩:=rE (mP v ((v.2.2.2.2.2.1:List cQ)++[gl s v.2.2.1])) s.1.1
  unfold MJ
  rw [o2]
  exact Nj h (.inr q) o1
 ·have ha:0≤v.2.2.1:=by omega
  obtain ⟨c1,c2⟩:=cmp _ rfl
  rw [c2]
  generalize (m+if (bif v.2.2.1==0 then (1:Int) else 0)=1 then 1 else 0)=m' at c1
  show MJ m' p (fT (cm v s.1.1))
  rcases g9 v s.1.1 with ⟨_,e2⟩ | ⟨_,e2⟩
  all_goals rw [e2]
  ·rcases jN (v.1,v.2.1+1,(0:Int),v.2.2.2) with ⟨_,r,e3⟩ | ⟨h3,_⟩
   ·rw [e3];exact II h q ha c1 (.inl rfl)
   ·have h3:v.2.1+1=2:=h3
    omega
  ·rcases jN (v.1,v.2.1,v.2.2.1+1,v.2.2.2) with ⟨h3,_⟩ | ⟨h3,e3⟩
   ·exact absurd q h3
   ·rw [e3];exact II h q ha c1 (.inr ⟨q,rfl⟩)
 ·obtain ⟨c1,c2⟩:=cmp _ rfl
  rw [c2]
  exact failed _ (by omega) (c1.imp And.left id)
 ·rw [(no _ rfl).1,(no _ rfl).2]
  obtain ⟨o1,o2⟩:=rE v s.1.1
  unfold MJ
  rw [o2]
  exact K0 h q (o1.imp And.left And.left)
 ·show MJ (m+if (2:Int)=1 then 1 else 0) (p+if (2:Int)=2 then 1 else 0) _
  rw [if_neg (by decide),if_pos rfl,Int.add_zero]
  exact PD h q
 ·rw [(no _ rfl).1,(no _ rfl).2]
  obtain ⟨o1,o2⟩:=rE v s.1.1
  unfold MJ
  rw [o2]
  exact JQ h q (o1.imp And.left And.left)
end Go.Proofs.YtdbjakibneeeiaaGreatDoor.Ex
