/- Layer 18 (snap), purely: which locks he holds. -/
import Derived.Test.YtdbjakibneeeiaaGreatDoorKExPg
set_option linter.all false
set_option maxHeartbeats 4000000
set_option maxRecDepth 100000
namespace Go.Proofs.YtdbjakibneeeiaaGreatDoor.Ex
open Go.RowKit Sx
def oz {L:List Int} {k:Nat} (h:k<L.length) (x:Int) (i:Nat):(L.set k x).getD i 0=if i=k then x else L.getD i 0:=by
 simp only [List.getD,List.getElem?_set]
 by_cases e:k=i
 ·subst e;simp [h]
 ·have e2:¬ i=k:=fun c=>e c.symm
  simp [e,e2]
def EW {L M:List Int} (h:L.length=M.length) (h2:∀i,i<M.length→L.getD i 0=M.getD i 0):L=M:=by
 refine List.ext_getElem h fun i h3 h4=>?_
 have:=h2 i h4
 rwa [bE h3,bE h4] at this
def KP (L0:List Int) (w ph at_ tr:Int) (L:List Int):Prop:=
 (0≤ph∧ph≤2∧tr≤1∧L=L0)∨
 (ph=3∧0≤at_∧∀i:Nat,i<L0.length→((i:Int)<at_→L0.getD i 0=0∧L.getD i 0=w)∧(at_≤(i:Int)→L.getD i 0=L0.getD i 0))∨
 (ph=4∧∀i:Nat,i<L0.length→L0.getD i 0=0∧L.getD i 0=w)∨
 (ph=5∧0≤at_∧∀i:Nat,i<L0.length→L0.getD i 0=0∧((i:Int)<at_→L.getD i 0=0)∧(at_≤(i:Int)→L.getD i 0=w))∨
 (ph=6∧L=L0)
def KJ (L0:List Int) (w:Int) (v:cU) (s:P_2):Prop:=List.length s.2.1=L0.length∧0≤v.2.2.2.1∧v.2.2.2.1≤2∧KP L0 w v.2.1 v.2.2.1 v.2.2.2.1 s.2.1
def KP.low {L0:List Int} {w ph at_ tr:Int} {L:List Int} (h:KP L0 w ph at_ tr L) (hp:ph≤2):0≤ph∧tr≤1∧L=L0:=by
 rcases h with ⟨h1,h2,h3,h4⟩ | ⟨h1,_⟩ | ⟨h1,_⟩ | ⟨h1,_⟩ | ⟨h1,_⟩
 ·exact ⟨h1,h3,h4⟩
 all_goals (exfalso;omega)
def KJ.failed {L0:List Int} {w:Int} {v:cU} {s:P_2} (h:KJ L0 w v s) (hp:v.2.1≤2):KJ L0 w (dn v) s:=by
 obtain ⟨h1,h2,h3,h4⟩:=h
 obtain ⟨_,h5,h6⟩:=h4.low hp
 rcases tf v h2 (by omega) with ⟨_,e2⟩ | ⟨_,e2⟩
 all_goals rw [e2]
 ·refine ⟨h1,by show (0:Int)≤v.2.2.2.1+1;omega,by show v.2.2.2.1+1≤(2:Int);omega,.inr (.inl ⟨rfl,Int.le_refl _,fun i hi=>⟨fun c=>?_,fun _=>by rw [h6]⟩⟩)⟩
  have c:(i:Int)<0:=c
  omega
 ·exact ⟨h1,by show (0:Int)≤v.2.2.2.1+1;omega,by show v.2.2.2.1+1≤(2:Int);omega,.inl ⟨Int.le_refl _,(show (0:Int)≤2 by decide),by show v.2.2.2.1+1≤(1:Int);omega,h6⟩⟩
def KJ.step {L0:List Int} {w:Int} {v:cU} {s:P_2} (h:KJ L0 w v s) (hm:qP s) (hp:bG v w s):KJ L0 w (aB v w s).1 (aB v w s).2.1:=by
 have h':=h
 obtain ⟨h1,h2,h3,h4⟩:=h
 have ha:=Cz hp
 have hn:=hm.1
 rcases nR v w s hp with ⟨p,e⟩ | ⟨p,e⟩ | ⟨p,e⟩ | ⟨p,e⟩ | ⟨p,e⟩ | ⟨p,hf,e⟩ | ⟨p,hf,e⟩ | ⟨p,_,hf,e⟩
 all_goals rw [e]
 ·obtain ⟨h5,h6,h7⟩:=h4.low (by omega)
  rcases g9 (kM v ((v.2.2.2.2.1:List Int)++[(gl s v.2.2.1).2.1])) s.1.1 with ⟨_,e2⟩ | ⟨_,e2⟩
  all_goals rw [e2]
  ·exact ⟨h1,h2,h3,.inl ⟨by show (0:Int)≤v.2.1+1;omega,by show v.2.1+1≤(2:Int);omega,h6,h7⟩⟩
  ·exact ⟨h1,h2,h3,.inl ⟨by show (0:Int)≤v.2.1;omega,by show v.2.1≤(2:Int);omega,h6,h7⟩⟩
 ·exact h'.failed (by omega)
 ·obtain ⟨h5,h6,h7⟩:=h4.low (by omega)
  rcases g9 (mP v ((v.2.2.2.2.2.1:List cQ)++[gl s v.2.2.1])) s.1.1 with ⟨_,e2⟩ | ⟨_,e2⟩
  all_goals rw [e2]
  ·exact ⟨h1,h2,h3,.inl ⟨by show (0:Int)≤v.2.1+1;omega,by show v.2.1+1≤(2:Int);omega,h6,h7⟩⟩
  ·exact ⟨h1,h2,h3,.inl ⟨by show (0:Int)≤v.2.1;omega,by show v.2.1≤(2:Int);omega,h6,h7⟩⟩
 ·obtain ⟨h5,h6,h7⟩:=h4.low (by omega)
  show KJ L0 w (fT (cm v s.1.1)) s
  rcases g9 v s.1.1 with ⟨_,e2⟩ | ⟨_,e2⟩
  all_goals rw [e2]
  ·rcases jN (v.1,v.2.1+1,(0:Int),v.2.2.2) with ⟨_,r,e3⟩ | ⟨h8,_⟩
   ·rw [e3];exact ⟨h1,h2,h3,.inr (.inr (.inr (.inr ⟨rfl,h7⟩)))⟩
   ·have h8:v.2.1+1=2:=h8
    omega
  ·rcases jN (v.1,v.2.1,v.2.2.1+1,v.2.2.2) with ⟨h8,_⟩ | ⟨h8,e3⟩
   ·exact absurd p h8
   ·rw [e3];exact ⟨h1,h2,h3,.inl ⟨by show (0:Int)≤v.2.1;omega,by show v.2.1≤(2:Int);omega,h6,h7⟩⟩
 ·exact h'.failed (by omega)
 ·obtain ⟨f1,f2⟩:=Bool.and_eq_true_iff.1 hf
  have f2:List.getD s.2.1 v.2.2.1.toNat (0:Int)=0:=eq_of_beq (α:=Int) f2
  obtain ⟨f3,f4⟩:=dA.1 f1
  have hk:v.2.2.1.toNat<List.length s.2.1:=by omega
  rcases h4 with ⟨_,h5,_⟩ | ⟨_,h5,h6⟩ | ⟨h5,_⟩ | ⟨h5,_⟩ | ⟨h5,_⟩
  ·omega
  ·have hall:∀i:Nat,i<L0.length→((i:Int)<v.2.2.1+1→L0.getD i 0=0∧(List.set s.2.1 v.2.2.1.toNat w).getD i 0=w)∧(v.2.2.1+1≤(i:Int)→(List.set s.2.1 v.2.2.1.toNat w).getD i 0=L0.getD i 0):=by
    intro i hi
    rw [oz hk]
    obtain ⟨h7,h8⟩:=h6 i hi
    constructor
    ·intro c
     by_cases e3:i=v.2.2.1.toNat
     ·rw [if_pos e3]
      refine ⟨?_,rfl⟩
      rw [← h8 (by omega),e3];exact f2
     ·rw [if_neg e3];exact h7 (by omega)
    ·intro c
     rw [if_neg (by omega)]
     exact h8 (by omega)
   show KJ L0 w (cm v s.1.1) (s.1,List.set s.2.1 v.2.2.1.toNat w,s.2.2)
   have hl:List.length (List.set s.2.1 v.2.2.1.toNat w)=L0.length:=by rw [List.length_set];exact h1
   rcases g9 v s.1.1 with ⟨c,e2⟩ | ⟨c,e2⟩
   all_goals rw [e2]
   ·refine ⟨hl,h2,h3,.inr (.inr (.inl ⟨by show v.2.1+1=4;omega,fun i hi=>(hall i hi).1 (by omega)⟩))⟩
   ·exact ⟨hl,h2,h3,.inr (.inl ⟨p,by show (0:Int)≤v.2.2.1+1;omega,hall⟩)⟩
  all_goals omega
 ·rcases h4 with ⟨_,h5,_⟩ | ⟨h5,_⟩ | ⟨_,h6⟩ | ⟨h5,_⟩ | ⟨h5,_⟩
  ·omega
  ·omega
  ·exact ⟨h1,h2,h3,.inr (.inr (.inr (.inl ⟨rfl,Int.le_refl _,fun i hi=>⟨(h6 i hi).1,fun c=>by have c:(i:Int)<0:=c;omega,fun _=>(h6 i hi).2⟩⟩)))⟩
  all_goals omega
 ·rcases h4 with ⟨_,h5,_⟩ | ⟨h5,_⟩ | ⟨h5,_⟩ | ⟨_,h5,h6⟩ | ⟨h5,_⟩
  ·omega
  ·omega
  ·omega
  ·have hk:v.2.2.1.toNat<List.length s.2.1:=by omega
   have hall:∀i:Nat,i<L0.length→L0.getD i 0=0∧((i:Int)<v.2.2.1+1→(List.set s.2.1 v.2.2.1.toNat (0:Int)).getD i 0=0)∧(v.2.2.1+1≤(i:Int)→(List.set s.2.1 v.2.2.1.toNat (0:Int)).getD i 0=w):=by
    intro i hi
    rw [oz hk]
    obtain ⟨h7,h8,h9⟩:=h6 i hi
    refine ⟨h7,fun c=>?_,fun c=>?_⟩
    ·by_cases e3:i=v.2.2.1.toNat
     ·rw [if_pos e3]
     ·rw [if_neg e3];exact h8 (by omega)
    ·rw [if_neg (by omega)]
     exact h9 (by omega)
   show KJ L0 w (cm v s.1.1) (s.1,List.set s.2.1 v.2.2.1.toNat (0:Int),s.2.2)
   have hl:List.length (List.set s.2.1 v.2.2.1.toNat (0:Int))=L0.length:=by rw [List.length_set];exact h1
   rcases g9 v s.1.1 with ⟨c,e2⟩ | ⟨c,e2⟩
   all_goals rw [e2]
   ·refine ⟨hl,h2,h3,.inr (.inr (.inr (.inr ⟨by show v.2.1+1=6;omega,?_⟩)))⟩
    exact EW hl fun i hi=>by rw [(hall i hi).1];exact (hall i hi).2.1 (by omega)
   ·exact ⟨hl,h2,h3,.inr (.inr (.inr (.inl ⟨p,by show (0:Int)≤v.2.2.1+1;omega,hall⟩)))⟩
  ·omega
end Go.Proofs.YtdbjakibneeeiaaGreatDoor.Ex
