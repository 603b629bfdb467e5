/- SnapAlone, purely. -/
import Derived.Test.YtdbjakibneeeiaaGreatDoorKSnapAloneP
import Derived.Test.YtdbjakibneeeiaaGreatDoorKG38ExTF
import Derived.Test.YtdbjakibneeeiaaGreatDoorKExRcAloned
set_option linter.all false
set_option maxHeartbeats 4000000
set_option maxRecDepth 100000
namespace Go.Proofs.YtdbjakibneeeiaaGreatDoor.Ex.d
open Go.RowKit Sx
def a05 (c:Mf) (L:List dc) (h:L.length≤1000000) (h2:∀a∈L,List.length a.2.2.1≤1000000) {T:Int} (hs:YQ (L,())=some (T,())):Says (YM (c,L,())) (Aq c∧T≤c.2.2.1∧∀i,i<L.length→P13 c.2.2.2.1 L i):=by
 refine aa.of (a0Q (c,L,())) (Says.xb (OZ c) fun b hb=>Says.iG (DQ hb) fun hc=>aa.gj hs (Says.GC DJ fun ht=>?_))
 have hL:L.length≤9223372036854775807:=Nat.le_trans h (by decide)
 refine aa.xb (aa.allI (fun i=>((L,(i:Int),()),((c,()),()),())) L.length (.inl ((false,()),(),())) (.inr (.inl ((),(),()))) (P13 c.2.2.2.1 L) hL (fun i hi hI=>?_) ?_ rfl) (fun y hy=>?_)
 ·refine aa.br (fun _=>?_) (fun h=>absurd (cr hi) (by rw [h];simp))
  refine aa.gd (b9 hi) (aa.gd (bf hi) ?_)
  have ek:L.getD (Int.toNat (i:Int)) cI=mz L i:=by rw [Int.toNat_natCast];rfl
  have hm:mz L i∈L:=by unfold mz;rw [bE hi];exact List.getElem_mem hi
  obtain ⟨⟨b1,u1⟩,e1,hb1⟩:=NK (mz L i) c.2.2.2.1 (h2 _ hm)
  have e1:MH (L.getD (Int.toNat (i:Int)) cI,c.2.2.2.1,())=some (b1,()):=by rw [ek];exact e1
  refine aa.gj e1 ?_
  refine aa.br (fun h1=>?_) (fun h1=>⟨_,rfl,rfl,fun r=>?_⟩)
  rotate_left
  ·rw [(DQ hb1).2 r.1] at h1;cases h1
  have h1:=(DQ hb1).1 h1
  refine aa.gd (b9 hi) (aa.gd (bf hi) ?_)
  refine aa.br (fun h3=>?_) (fun h3=>?_)
  ·refine aa.gd (b9 hi) (aa.gd (bf hi) ?_)
   refine aa.br (fun h4=>?_) (fun h4=>⟨_,rfl,rfl,fun r=>?_⟩)
   rotate_left
   ·refine r.2.1 ⟨?_,?_⟩
    ·rw [← ek];exact eq_of_beq (eq_of_beq h3)
    ·have h4:(((List.length (L.getD (Int.toNat (i:Int)) cI).2.2.1:Nat):Int)==0)=true:=by
      cases hq:(((List.length (L.getD (Int.toNat (i:Int)) cI).2.2.1:Nat):Int)==0) with
      | true=>rfl
      | false=>have h4:((((List.length (L.getD (Int.toNat (i:Int)) cI).2.2.1:Nat):Int)==0)==false)=false:=h4;rw [hq] at h4;cases h4
     have h4:((List.length (L.getD (Int.toNat (i:Int)) cI).2.2.1:Nat):Int)=0:=eq_of_beq h4
     rw [← ek];omega
   have hE:¬ ER (mz L i):=fun r=>by
    have h4:((((List.length (L.getD (Int.toNat (i:Int)) cI).2.2.1:Nat):Int)==0)==false)=true:=h4
    have e:List.length (L.getD (Int.toNat (i:Int)) cI).2.2.1=0:=by rw [ek];exact r.2
    rw [e] at h4;cases h4
   refine aa.br (fun hp=>?_) (fun hp=>?_)
   ·have hp:(0:Int)<(i:Int):=of_decide_eq_true (eq_of_beq hp)
    have e1:Int.toNat ((i:Int) - 1)=i - 1:=by omega
    refine aa.gd (bS (by show _≤(i:Int) - 1;omega) (by show (i:Int) - 1≤_;omega)) ?_
    refine aa.gd (bC.2 ⟨by show (0:Int)≤(i:Int) - 1;omega,by show (i:Int) - 1<(L.length:Int);omega⟩) (aa.gd (decide_eq_true (by show Int.toNat ((i:Int) - 1)<L.length;omega)) ?_)
    refine aa.gd (b9 hi) (aa.gd (bf hi) ?_)
    have ep:L.getD (Int.toNat ((i:Int) - 1)) cI=mz L (i - 1):=by rw [e1];rfl
    refine aa.br (fun h4=>⟨_,rfl,rfl,fun r=>?_⟩) (fun h4=>?_)
    ·have h4:(mz L i).1≤(mz L (i - 1)).1:=by rw [← ek,← ep];exact of_decide_eq_true h4
     have:=r.2.2 (by omega)
     omega
    ·have h4:¬ (mz L i).1≤(mz L (i - 1)).1:=by rw [← ek,← ep];exact of_decide_eq_false h4
     exact aa.gd (aU hi hL) ⟨_,rfl,rfl,h1,hE,fun _=>by omega⟩
   ·have hp:¬ (0:Int)<(i:Int):=fun c=>by have hp:(decide ((i:Int)>0)==true)=false:=hp;rw [decide_eq_true c] at hp;cases hp
    exact aa.gd (aU hi hL) ⟨_,rfl,rfl,h1,hE,fun c=>by omega⟩
  ·have hE:¬ ER (mz L i):=fun r=>by
    have h3:(((L.getD (Int.toNat (i:Int)) cI).2.1==(0:Int))==true)=false:=h3
    have e:(L.getD (Int.toNat (i:Int)) cI).2.1=0:=by rw [ek];exact r.1
    rw [e] at h3;cases h3
   refine aa.br (fun hp=>?_) (fun hp=>?_)
   ·have hp:(0:Int)<(i:Int):=of_decide_eq_true (eq_of_beq hp)
    have e1:Int.toNat ((i:Int) - 1)=i - 1:=by omega
    refine aa.gd (bS (by show _≤(i:Int) - 1;omega) (by show (i:Int) - 1≤_;omega)) ?_
    refine aa.gd (bC.2 ⟨by show (0:Int)≤(i:Int) - 1;omega,by show (i:Int) - 1<(L.length:Int);omega⟩) (aa.gd (decide_eq_true (by show Int.toNat ((i:Int) - 1)<L.length;omega)) ?_)
    refine aa.gd (b9 hi) (aa.gd (bf hi) ?_)
    have ep:L.getD (Int.toNat ((i:Int) - 1)) cI=mz L (i - 1):=by rw [e1];rfl
    refine aa.br (fun h4=>⟨_,rfl,rfl,fun r=>?_⟩) (fun h4=>?_)
    ·have h4:(mz L i).1≤(mz L (i - 1)).1:=by rw [← ek,← ep];exact of_decide_eq_true h4
     have:=r.2.2 (by omega)
     omega
    ·have h4:¬ (mz L i).1≤(mz L (i - 1)).1:=by rw [← ek,← ep];exact of_decide_eq_false h4
     exact aa.gd (aU hi hL) ⟨_,rfl,rfl,h1,hE,fun _=>by omega⟩
   ·have hp:¬ (0:Int)<(i:Int):=fun c=>by have hp:(decide ((i:Int)>0)==true)=false:=hp;rw [decide_eq_true c] at hp;cases hp
    exact aa.gd (aU hi hL) ⟨_,rfl,rfl,h1,hE,fun c=>by omega⟩
 ·exact aN cq
 ·rcases hy with ⟨rfl,hn⟩ | ⟨rfl,hn⟩
  ·exact Says.no hn
  ·exact Says.yes hn
def YE:Prop:=∀t:xu,Zn t→IZ (t,())=some (⟨(txn.fH (Zm t)).toArray⟩,(Zm t).ok,())
def a0a (hD:YE) (t:xu) (h:Zn t):YT (t,())=some (YS t,()):=by
 refine (a0J (t,())).trans ((aY (hD t h)).trans ?_)
 show az (!(Zm t).ok) (some ((0:Int),())) (xb (Zf ((((txn.fH (Zm t)).toArray.size:Nat):Int),())) fun y=>some y)=_
 unfold YS
 cases (Zm t).ok with
 | false=>rfl
 | true=>exact (aY (ZC _)).trans (by rw [List.size_toArray];rfl)
def ZO (hD:YE) (a:dc) (h:YU a):YV (a,())=some (a10 a,()):=by
 refine aa.of_eq (Q:=fun _=>True) (aa.of (a0H (a,())) ?_)
 have hL:List.length a.2.2.1≤9223372036854775807:=Nat.le_trans h.1 (by decide)
 have hb:(13:Int)*(List.length a.2.2.1:Int)≤9223372036854775807:=by have:=h.1;omega
 refine aa.xb (aa.idx (Q:=fun z=>match z with | .inl y=>y.1.1=a10 a | .inr y=>False) (fun k=>((Yt YS (a.2.2.1.take k),(k:Int),()),((a,()),()),())) (fun _=>True) (List.length a.2.2.1) hL trivial (fun k hk _=>?_) (fun _=>?_) rfl) (fun y hy=>?_)
 ·have eg:(a.2.2.1:List xu).getD (Int.toNat (k:Int)) nZ=(a.2.2.1:List xu)[k]:=by rw [Int.toNat_natCast];exact bE hk
  refine aa.br (fun _=>?_) (fun h=>absurd (cr hk) (by rw [h];simp))
  refine aa.gd (b9 hk) (aa.gd (bf hk) ?_)
  have e2:YT ((a.2.2.1:List xu).getD (Int.toNat (k:Int)) nZ,())=some (YS (a.2.2.1:List xu)[k],()):=by rw [eg];exact a0a hD _ (h.2 _ (List.getElem_mem hk))
  refine aa.gj e2 ?_
  have e3:=YC YS (a.2.2.1:List xu) hk
  refine aa.gd (by rw [← e3];exact YW YS (fun t _=>Z6 t) (by decide) hb _) (aa.gd (aU hk hL) ⟨_,rfl,?_,trivial⟩)
  rw [e3];rfl
 ·exact aa.br (fun h=>absurd cq (by rw [h];simp)) (fun _=>⟨_,rfl,YF YS a.2.2.1⟩)
 ·match y,hy with
  | .inl ((r,u1),u2),e=>
   have e:r=a10 a:=e
   subst e
   exact ⟨_,rfl,rfl⟩
def a04 (hD:YE) (L:List dc) (n:Int) (h:MJ L):Z0 ((L,n,()),())=some (YB L,()):=by
 refine aa.of_eq (Q:=fun _=>True) (aa.of (a0L ((L,n,()),())) ?_)
 have hL:L.length≤9223372036854775807:=Nat.le_trans h.1 (by decide)
 have hb:(13000000:Int)*(L.length:Int)≤9223372036854775807:=by have:=h.1;omega
 refine aa.xb (aa.idx (Q:=fun z=>match z with | .inl y=>y.1.1=YB L | .inr y=>False) (fun k=>((Yt a10 (L.take k),(k:Int),()),(((L,n,()),()),()),())) (fun _=>True) L.length hL trivial (fun k hk _=>?_) (fun _=>?_) rfl) (fun y hy=>?_)
 ·have eg:L.getD (Int.toNat (k:Int)) cI=L[k]:=by rw [Int.toNat_natCast];exact bE hk
  refine aa.br (fun _=>?_) (fun h=>absurd (cr hk) (by rw [h];simp))
  refine aa.gd (b9 hk) (aa.gd (bf hk) ?_)
  have e2:YV (L.getD (Int.toNat (k:Int)) cI,())=some (a10 L[k],()):=by rw [eg];exact ZO hD _ (h.2 _ (List.getElem_mem hk))
  refine aa.gj e2 ?_
  have e3:=YC a10 L hk
  refine aa.gd (by rw [← e3];exact YW a10 (fun a ha=>Ze a (h.2 a ha)) (by decide) hb _) (aa.gd (aU hk hL) ⟨_,rfl,?_,trivial⟩)
  rw [e3];rfl
 ·exact aa.br (fun h=>absurd cq (by rw [h];simp)) (fun _=>⟨_,rfl,YF a10 L⟩)
 ·match y,hy with
  | .inl ((r,u1),u2),e=>
   have e:r=YB L:=e
   subst e
   exact ⟨_,rfl,rfl⟩
def ZA (hD:YE) (L:List dc) (h:MJ L):YQ (L,())=some (YB L,()):=(a0m (L,())).trans (aY (a04 hD L 0 h))
def ZW (hD:YE) (c:Mf) (L:List dc) (h:MJ L):∃b d:Bool,a03 (c,L,())=some (b,())∧YM (c,L,())=some (d,())∧(d=true→b=true):=by
 obtain ⟨⟨b,ub⟩,e1,h1⟩:=ZG c L h
 obtain ⟨⟨d,ud⟩,e2,h2⟩:=a05 c L h.1 (fun a ha=>(h.2 a ha).1) (ZA hD L h)
 exact ⟨b,d,e1,e2,fun k=>h1.2 (ZY (h2.1 k))⟩
def a0g:YE:=fun t h=>by
 unfold IZ
 show (bif decide (ByteArray.size t.2.2.2.2.2.1≤maxLen) then some _ else none)=_
 have h:ByteArray.size t.2.2.2.2.2.1≤maxLen:=h
 rw [decide_eq_true h];rfl
def a0z (hD:YE) (c:Mf) {n:Nat} (L:List cQ) (g:Int) (hS:lX n L) (hn:n≤1000) (hk:FA (.row z4) L) (hg:dx g=true) :
  ∃l r e,YY (c,dQ L,((5:Int),(0:Int),(0:Int),g,ByteArray.empty,()),())=some (l,r,e,())∧∃d:Bool,YM (c,dQ L,())=some (d,())∧(d=true→r=nD L g):=by
 have hf:=ZE hS hn hk
 obtain ⟨b,d,e1,e2,hbd⟩:=ZW hD c (dQ L) hf
 cases b with
 | true=>
  refine ⟨dQ L,nD L g,[],?_,d,e2,fun _=>rfl⟩
  refine (ZM _ _ _).trans ((aY e1).trans ?_)
  refine (aZ rfl).trans ?_
  refine (a0o _).trans ?_
  exact (aY (qA g hS hn hg)).trans (aY (Zd c (dQ L) 0 _ (nD L g) hf.ok))
 | false=>
  obtain ⟨r,er⟩:=Zx c (dQ L) 0 ((5:Int),(0:Int),(0:Int),g,ByteArray.empty,()) 1 hf.ok
  refine ⟨dQ L,r,[],?_,d,e2,fun k=>(by cases hbd k)⟩
  refine (ZM _ _ _).trans ((aY e1).trans ?_)
  exact (aN rfl).trans er
end Go.Proofs.YtdbjakibneeeiaaGreatDoor.Ex.d
