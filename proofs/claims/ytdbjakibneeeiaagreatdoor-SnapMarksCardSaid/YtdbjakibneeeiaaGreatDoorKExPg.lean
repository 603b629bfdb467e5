/- Layer 18 (snap), purely: marks and points; which locks he holds. -/
import Derived.Test.YtdbjakibneeeiaaGreatDoorKG41ExPf
set_option linter.all false
set_option maxHeartbeats 4000000
set_option maxRecDepth 100000
namespace Go.Proofs.YtdbjakibneeeiaaGreatDoor.Ex
open Go.RowKit Sx
theorem wrap_1 {x:Int} (h0 : -9223372036854775808≤x+1) (h1:x+1≤9223372036854775807):IntKind.wrap IntKind.i64 (x+(1:Int))=x+1:=by rw [IntKind.wrap_i64];omega
theorem on_cases (v:P_1) (n:Int):(v.2.2.1+1=n∧tkOn v n=(v.1,v.2.1+1,0,v.2.2.2))∨(v.2.2.1+1≠n∧tkOn v n=(v.1,v.2.1,v.2.2.1+1,v.2.2.2)):=by
 unfold tkOn
 cases h:(v.2.2.1+1==n) with
 | true=>exact .inl ⟨eq_of_beq (α:=Int) h,rfl⟩
 | false=>exact .inr ⟨ne_of_beq_false (α:=Int) h,rfl⟩
theorem fail_cases (v:P_1) (h0:0≤v.2.2.2.1) (h1:v.2.2.2.1≤2):(2≤v.2.2.2.1+1∧tkFail v=(v.1,3,0,v.2.2.2.1+1,[],[],v.2.2.2.2.2.2))∨(v.2.2.2.1+1<2∧tkFail v=(v.1,0,0,v.2.2.2.1+1,[],[],v.2.2.2.2.2.2)):=by
 have e:IntKind.wrap IntKind.i64 (v.2.2.2.1+(1:Int))=v.2.2.2.1+1:=wrap_1 (by omega) (by omega)
 unfold tkFail
 rw [e]
 by_cases h:v.2.2.2.1+1≥2
 ·rw [decide_eq_true h];exact .inl ⟨h,rfl⟩
 ·rw [decide_eq_false h];exact .inr ⟨by omega,rfl⟩
theorem done_cases (u:P_1):(u.2.1≠2∧∃r,tkDone u=(u.1,6,u.2.2.1,u.2.2.2.1,u.2.2.2.2.1,u.2.2.2.2.2.1,r))∨(u.2.1=2∧tkDone u=u):=by
 unfold tkDone
 cases h:(u.2.1 != (2:Int)) with
 | true=>exact .inl ⟨by simpa using h,_,rfl⟩
 | false=>exact .inr ⟨by simpa using h,rfl⟩
theorem step_cases (v:P_1) (w:Int) (s:P_2) (hp:AblePh v w s) :
  (v.2.1=0∧stepP v w s=(tkOn (setVs v ((v.2.2.2.2.1:List Int)++[(shAt s v.2.2.1).2.1])) s.1.1,s,0,()))∨(v.2.1=0∧stepP v w s=(tkFail v,s,0,()))∨
  (v.2.1=1∧stepP v w s=(tkOn (setCp v ((v.2.2.2.2.2.1:List P_0)++[shAt s v.2.2.1])) s.1.1,s,0,()))∨
  (v.2.1=2∧stepP v w s=(tkDone (tkOn v s.1.1),s,(bif v.2.2.1==0 then 1 else 0),()))∨(v.2.1=2∧stepP v w s=(tkFail v,s,(bif v.2.2.1==0 then 1 else 0),()))∨
  (v.2.1=3∧lkFree s.2.1 v.2.2.1=true∧stepP v w s=(tkOn v s.1.1,(s.1,List.set s.2.1 v.2.2.1.toNat w,s.2.2),0,()))∨
  (v.2.1=4∧(∀k,k<List.length s.2.1→lkHolds s.2.1 (k:Int) w=true)∧stepP v w s=((v.1,5,0,v.2.2.2.1,v.2.2.2.2.1,v.2.2.2.2.2.1,blockP s.2.2.2.1 v.1,()),s,2,()))∨
  (v.2.1=5∧(0≤v.2.2.1∧v.2.2.1<(List.length s.2.1:Int))∧lkHolds s.2.1 v.2.2.1 w=true∧stepP v w s=(tkOn v s.1.1,(s.1,List.set s.2.1 v.2.2.1.toNat (0:Int),s.2.2),0,())):=by
 rcases hp with ⟨h,h1,h2⟩ | ⟨h,h1,h2⟩ | ⟨h,h1,h2⟩ | ⟨h,h1⟩ | ⟨h,h1⟩ | ⟨h,⟨h1,h2⟩,h3⟩
 ·have e:stepP v w s=(bif lkFree s.2.1 v.2.2.1 then tkOn (setVs v ((v.2.2.2.2.1:List Int)++[(shAt s v.2.2.1).2.1])) s.1.1 else tkFail v,s,0,()):=by unfold stepP;rw [h];rfl
  rw [e]
  cases lkFree s.2.1 v.2.2.1 with
  | true=>exact .inl ⟨h,rfl⟩
  | false=>exact .inr (.inl ⟨h,rfl⟩)
 ·exact .inr (.inr (.inl ⟨h,by unfold stepP;rw [h];rfl⟩))
 ·have e:stepP v w s=(tkCmp v s,s,bif v.2.2.1==0 then 1 else 0,()):=by unfold stepP;rw [h];rfl
  rw [e]
  unfold tkCmp
  cases tkSame v s with
  | true=>exact .inr (.inr (.inr (.inl ⟨h,rfl⟩)))
  | false=>exact .inr (.inr (.inr (.inr (.inl ⟨h,rfl⟩))))
 ·exact .inr (.inr (.inr (.inr (.inr (.inl ⟨h,h1,by unfold stepP;rw [h];rfl⟩)))))
 ·exact .inr (.inr (.inr (.inr (.inr (.inr (.inl ⟨h,h1,by unfold stepP;rw [h];rfl⟩))))))
 ·exact .inr (.inr (.inr (.inr (.inr (.inr (.inr ⟨h,⟨h1,h2⟩,h3,by unfold stepP;rw [h];rfl⟩))))))
theorem able_at {v:P_1} {w:Int} {s:P_2} (hp:AblePh v w s):v.2.1=4∨(0≤v.2.2.1∧v.2.2.1<(List.length s.2.1:Int)):=by
 rcases hp with ⟨h,h1,h2⟩ | ⟨h,h1,h2⟩ | ⟨h,h1,h2⟩ | ⟨h,h1⟩ | ⟨h,h1⟩ | ⟨h,⟨h1,h2⟩,h3⟩
 ·exact .inr ⟨h1,h2⟩
 ·exact .inr ⟨h1,h2⟩
 ·exact .inr ⟨h1,h2⟩
 ·exact .inr (lkHas_iff.1 (Bool.and_eq_true_iff.1 h1).1)
 ·exact .inl h
 ·exact .inr ⟨h1,h2⟩
def MJn (m p ph at_ tr:Int):Prop:=0≤tr∧0≤m∧0≤p∧((0≤ph∧ph≤2∧tr≤1∧p=0∧(m≤tr∨(ph=2∧0<at_∧m≤tr+1)))∨((ph=3∨ph=4)∧m≤2∧p=0∧tr≤2)∨((ph=5∨ph=6)∧m≤2∧p≤1∧tr≤2))
def MJ (m p:Int) (v:P_1):Prop:=MJn m p v.2.1 v.2.2.1 v.2.2.2.1
theorem MJ.tells {w:Int} {v:P_1} {s:P_2} (hp:AblePh v w s) :
  ((stepP v w s).2.2.1=0∧¬ (v.2.1=2∧v.2.2.1=0)∧v.2.1≠4)∨((stepP v w s).2.2.1=1∧v.2.1=2∧v.2.2.1=0)∨((stepP v w s).2.2.1=2∧v.2.1=4):=by
 have key:∀c:Int,v.2.1=2→(bif v.2.2.1==0 then (1:Int) else 0)=c→(c=0∧¬ (v.2.1=2∧v.2.2.1=0)∧v.2.1≠4)∨(c=1∧v.2.1=2∧v.2.2.1=0)∨(c=2∧v.2.1=4):=by
  intro c h e
  cases hb:(v.2.2.1==(0:Int)) with
  | true=>
   have:=eq_of_beq (α:=Int) hb
   rw [hb] at e
   have e:1=c:=e
   omega
  | false=>
   have:=ne_of_beq_false (α:=Int) hb
   rw [hb] at e
   have e:0=c:=e
   omega
 rcases step_cases v w s hp with ⟨h,e⟩ | ⟨h,e⟩ | ⟨h,e⟩ | ⟨h,e⟩ | ⟨h,e⟩ | ⟨h,_,e⟩ | ⟨h,_,e⟩ | ⟨h,_,_,e⟩
 all_goals rw [e]
 ·exact .inl ⟨rfl,by omega,by omega⟩
 ·exact .inl ⟨rfl,by omega,by omega⟩
 ·exact .inl ⟨rfl,by omega,by omega⟩
 ·exact key _ h rfl
 ·exact key _ h rfl
 ·exact .inl ⟨rfl,by omega,by omega⟩
 ·exact .inr (.inr ⟨rfl,h⟩)
 ·exact .inl ⟨rfl,by omega,by omega⟩
theorem n_on {m p ph a tr ph' a':Int} (h:MJn m p ph a tr) (hp:ph=0∨ph=1) (hc:(ph'=ph+1∧a'=0)∨(ph'=ph∧a'=a+1)):MJn m p ph' a' tr:=by
 unfold MJn at *;omega
theorem n_fail {m p ph a tr m' ph':Int} (h:MJn m p ph a tr) (hp:ph≤2) (hm:m'=m∨(m'=m+1∧a=0)) (hc:(2≤tr+1∧ph'=3)∨(tr+1<2∧ph'=0)):MJn m' p ph' 0 (tr+1):=by
 unfold MJn at *;omega
theorem n_cmp {m p ph a tr m' ph' a':Int} (h:MJn m p ph a tr) (hp:ph=2) (ha:0≤a) (hm:(m'=m∧a≠0)∨(m'=m+1∧a=0)) (hc:ph'=6∨(ph'=2∧a'=a+1)):MJn m' p ph' a' tr:=by
 unfold MJn at *;omega
theorem n_take {m p ph a tr ph' a':Int} (h:MJn m p ph a tr) (hp:ph=3) (hc:ph'=ph+1∨ph'=ph):MJn m p ph' a' tr:=by
 unfold MJn at *;omega
theorem n_ans {m p ph a tr a':Int} (h:MJn m p ph a tr) (hp:ph=4):MJn m (p+1) 5 a' tr:=by
 unfold MJn at *;omega
theorem n_give {m p ph a tr ph' a':Int} (h:MJn m p ph a tr) (hp:ph=5) (hc:ph'=ph+1∨ph'=ph):MJn m p ph' a' tr:=by
 unfold MJn at *;omega
theorem on_nums (v:P_1) (n:Int):((tkOn v n).2.1=v.2.1+1∧(tkOn v n).2.2.1=0∨(tkOn v n).2.1=v.2.1∧(tkOn v n).2.2.1=v.2.2.1+1)∧(tkOn v n).2.2.2.1=v.2.2.2.1:=by
 rcases on_cases v n with ⟨_,e⟩ | ⟨_,e⟩ <;> rw [e]
 ·exact ⟨.inl ⟨rfl,rfl⟩,rfl⟩
 ·exact ⟨.inr ⟨rfl,rfl⟩,rfl⟩
theorem MJ.bound {m p:Int} {v:P_1} (h:MJ m p v):0≤v.2.2.2.1∧v.2.2.2.1≤2:=by
 unfold MJ MJn at h;omega
theorem MJ.step {m p w:Int} {v:P_1} {s:P_2} (h:MJ m p v) (hp:AblePh v w s):MJ (m+if (stepP v w s).2.2.1=1 then 1 else 0) (p+if (stepP v w s).2.2.1=2 then 1 else 0) (stepP v w s).1:=by
 have ha:=able_at hp
 obtain ⟨b0,b1⟩:=h.bound
 have no:∀c:Int,c=0→(m+if c=1 then 1 else 0)=m∧(p+if c=2 then 1 else 0)=p:=fun c e=>by subst e;simp
 have cmp:∀c:Int,(bif v.2.2.1==0 then (1:Int) else 0)=c→(((m+if c=1 then 1 else 0)=m∧v.2.2.1≠0)∨((m+if c=1 then 1 else 0)=m+1∧v.2.2.1=0))∧(p+if c=2 then 1 else 0)=p:=fun c e=>by
  cases hb:(v.2.2.1==(0:Int)) with
  | true=>
   have hz:=eq_of_beq (α:=Int) hb
   rw [hb] at e
   have e:1=c:=e
   subst e;simp [hz]
  | false=>
   have hz:=ne_of_beq_false (α:=Int) hb
   rw [hb] at e
   have e:0=c:=e
   subst e;simp [hz]
 have failed:∀m':Int,v.2.1≤2→(m'=m∨(m'=m+1∧v.2.2.1=0))→MJ m' p (tkFail v):=fun m' hq hm=>by
  rcases fail_cases v b0 b1 with ⟨c,e⟩ | ⟨c,e⟩ <;> rw [e]
  ·exact n_fail h hq hm (.inl ⟨c,rfl⟩)
  ·exact n_fail h hq hm (.inr ⟨c,rfl⟩)
 rcases step_cases v w s hp with ⟨q,e⟩ | ⟨q,e⟩ | ⟨q,e⟩ | ⟨q,e⟩ | ⟨q,e⟩ | ⟨q,_,e⟩ | ⟨q,_,e⟩ | ⟨q,_,_,e⟩
 all_goals rw [e]
 ·rw [(no _ rfl).1,(no _ rfl).2]
  obtain ⟨o1,o2⟩:=on_nums (setVs v ((v.2.2.2.2.1:List Int)++[(shAt s v.2.2.1).2.1])) s.1.1
  unfold MJ
  rw [o2]
  exact n_on h (.inl q) o1
 ·rw [(no _ rfl).1,(no _ rfl).2]
  exact failed m (by omega) (.inl rfl)
 ·rw [(no _ rfl).1,(no _ rfl).2]
  obtain ⟨o1,o2⟩:=on_nums (setCp v ((v.2.2.2.2.2.1:List P_0)++[shAt s v.2.2.1])) s.1.1
  unfold MJ
  rw [o2]
  exact n_on h (.inr q) o1
 ·have ha:0≤v.2.2.1:=by omega
  obtain ⟨c1,c2⟩:=cmp _ rfl
  rw [c2]
  generalize (m+if (bif v.2.2.1==0 then (1:Int) else 0)=1 then 1 else 0)=m' at c1
  show MJ m' p (tkDone (tkOn v s.1.1))
  rcases on_cases v s.1.1 with ⟨_,e2⟩ | ⟨_,e2⟩
  all_goals rw [e2]
  ·rcases done_cases (v.1,v.2.1+1,(0:Int),v.2.2.2) with ⟨_,r,e3⟩ | ⟨h3,_⟩
   ·rw [e3];exact n_cmp h q ha c1 (.inl rfl)
   ·have h3:v.2.1+1=2:=h3
    omega
  ·rcases done_cases (v.1,v.2.1,v.2.2.1+1,v.2.2.2) with ⟨h3,_⟩ | ⟨h3,e3⟩
   ·exact absurd q h3
   ·rw [e3];exact n_cmp h q ha c1 (.inr ⟨q,rfl⟩)
 ·obtain ⟨c1,c2⟩:=cmp _ rfl
  rw [c2]
  exact failed _ (by omega) (c1.imp And.left id)
 ·rw [(no _ rfl).1,(no _ rfl).2]
  obtain ⟨o1,o2⟩:=on_nums v s.1.1
  unfold MJ
  rw [o2]
  exact n_take h q (o1.imp And.left And.left)
 ·show MJ (m+if (2:Int)=1 then 1 else 0) (p+if (2:Int)=2 then 1 else 0) _
  rw [if_neg (by decide),if_pos rfl,Int.add_zero]
  exact n_ans h q
 ·rw [(no _ rfl).1,(no _ rfl).2]
  obtain ⟨o1,o2⟩:=on_nums v s.1.1
  unfold MJ
  rw [o2]
  exact n_give h q (o1.imp And.left And.left)
end Go.Proofs.YtdbjakibneeeiaaGreatDoor.Ex
