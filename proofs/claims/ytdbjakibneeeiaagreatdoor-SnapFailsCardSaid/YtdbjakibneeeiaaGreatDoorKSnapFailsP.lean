/- SnapFails, purely. -/
import Derived.Test.YtdbjakibneeeiaaGreatDoorKSnapAlonedP
import Derived.Test.YtdbjakibneeeiaaGreatDoorKG38ExTF
import Derived.Test.YtdbjakibneeeiaaGreatDoorKG26ExO
import Derived.Test.YtdbjakibneeeiaaGreatDoorKExRcFailsd
set_option linter.all false
set_option maxHeartbeats 4000000
set_option maxRecDepth 100000
namespace Go.Proofs.YtdbjakibneeeiaaGreatDoor.Ex.d
open Go.RowKit Sx
def a1w {n k i:Nat} (hk:k<n):(List.set (List.replicate n (0:Int)) k 1073741824).getD i 0=if i=k then 1073741824 else 0:=by
 rw [oz (by rw [List.length_replicate];exact hk)]
 by_cases c:i=k
 ·rw [if_pos c,if_pos c]
 ·rw [if_neg c,if_neg c]
  by_cases d:i<n
  ·exact a0Z d
  ·simp [List.getD,d]
def a1v {W Z:List Int} {k i:Nat} (h:¬ i<k):a1p W Z (min i k)=a1p W Z (min (i+1) k):=by
 rw [Nat.min_eq_right (by omega),Nat.min_eq_right (by omega)]
def a1E {α β R:Type} {y:β} {f:α→Option R} {g:β→Option R}:xs (Sum.inr y) f g=g y:=rfl
def a1m (hD:YE) (g w a:Int) (s:P_2) (hg:Fits g) (hs1:FA (.row z4) s.2.2.2.1):a1n (g,(w,a,()),s,())=some (true,()):=by
 refine aa.of_eq (Q:=fun _=>True) (aa.of (a1P _) ?_)
 unfold W_5
 have i0:di (0:Int) 2=true:=by decide
 have i1:di (1:Int) 2=true:=by decide
 refine aa.xb (Cc s (wE _ hs1).1) fun y hy=>?_
 refine aa.br (fun h1=>?_) (fun _=>Cw)
 have hS:=M6 s hs1 (hy (zT (eq_of_beq h1)))
 clear hy
 refine aa.xb (OD s hS.cl) fun y hy=>?_
 obtain ⟨yb,yu⟩:=y
 refine aa.br (fun h1=>?_) (fun _=>Cw)
 have hp:IM s:=(DQ hy).1 h1
 refine aa.gd i0 (aa.br (fun h1=>?_) (fun _=>Cw))
 have w1:1≤w:=j_lt.1 (eq_of_beq h1)
 refine aa.gd i1 (aa.br (fun h1=>?_) (fun _=>Cw))
 have a0:0≤a:=j_lt.1 (eq_of_beq h1)
 refine aa.gd i1 (aa.br (fun _=>Cw) (fun h1=>?_))
 have a1:a<((List.length s.2.1:Nat):Int):=Int.not_le.1 (of_decide_eq_false h1)
 clear h1 hy
 obtain ⟨k,rfl⟩:∃k:Nat,a=(k:Int):=⟨a.toNat,by omega⟩
 have hk:k<List.length s.2.1:=by omega
 have hm:=hp.may
 have hl:=hS.1
 have hL:List.length s.2.1≤9223372036854775807:=Nat.le_trans hS.1 (by decide)
 have ho:okm ((List.length s.2.1:Nat):Int) ((List.length s.2.1:Nat):Int) 8=true:=a1x.2 ⟨by omega,rfl,by omega,by rw [Int.toNat_natCast];omega⟩
 have hr:(List.replicate (Int.toNat ((List.length s.2.1:Nat):Int)) (0:Int)).length=List.length s.2.1:=by rw [List.length_replicate,Int.toNat_natCast]
 refine aa.gd ho (aa.gd ho (aa.gd i1 (aa.gd (bC.2 ⟨a0,by show (k:Int)<((List.replicate (Int.toNat ((List.length s.2.1:Nat):Int)) (0:Int)).length:Int);rw [hr];exact a1⟩) (aa.gd (decide_eq_true (by show Int.toNat (k:Int)<(List.replicate (Int.toNat ((List.length s.2.1:Nat):Int)) (0:Int)).length;rw [hr,Int.toNat_natCast];exact hk)) ?_))))
 refine aa.gd i0 (aa.br (fun _=>Cw) (fun _=>?_))
 have hi:dx g=true:=bS hg.1 (Int.lt_add_one_iff.1 hg.2)
 obtain ⟨l,r,ev,eDo,d,e13,hrr⟩:=a0z hD s.1 s.2.2.2.1 g hS.2 (by decide) hs1 hi
 have hX:(List.replicate (List.length s.2.1) w).length=List.length s.2.1:=List.length_replicate
 have hZ:(List.replicate (List.length s.2.1) (0:Int)).length=List.length s.2.1:=List.length_replicate
 have eH:List.set (List.replicate (Int.toNat ((List.length s.2.1:Nat):Int)) (0:Int)) (Int.toNat (k:Int)) 1073741824=List.set (List.replicate (List.length s.2.1) (0:Int)) k 1073741824:=by rw [Int.toNat_natCast,Int.toNat_natCast]
 generalize hHd:List.set (List.replicate (Int.toNat ((List.length s.2.1:Nat):Int)) (0:Int)) (Int.toNat (k:Int)) 1073741824=H at eH
 have hHl:H.length=List.length s.2.1:=by rw [eH,List.length_set,hZ]
 have hHi:∀i,H.getD i 0=if i=k then 1073741824 else 0:=fun i=>by rw [eH];exact a1w hk
 obtain ⟨run1,stop1⟩:=a1s (g:=g) (w:=w) (H:=H) (n:=List.length s.2.1) (a:=k) hS hp w1 rfl hHl (fun i _=>by
  rw [hHi]
  by_cases c:i=k
  ·rw [if_pos c];decide
  ·rw [if_neg c];exact Int.le_refl _) hk (fun i h=>by rw [hHi,if_neg (by omega)]) (by rw [hHi,if_pos rfl];decide)
 have hSH:xW (a1q s H):=a19 hS hHl
 have e1:=a1l (w:=w) (v0:=EM g) (s0:=a1q s H) (T:=(k+1)+((k+1)+(k - 0+0))) (a0O g hg) hSH (by omega) (by rw [run1];exact stop1)
 rw [run1] at e1
 have eO:=zi (a1q s H) (Nat.le_trans hS.2.1 (by decide))
 have eN:F_3 (g,())=some (EM g,()):=M8 g
 have hM:(a1p (List.replicate (List.length s.2.1) w) H k).length=List.length s.2.1:=a1G hX hHl (by omega)
 subst hHd
 apply aa.gj
 ·refine mQ i0 ?_
  repeat' (first
   | refine dD eN ?_
   | refine dD eO ?_
   | refine dD e1 ?_
   | apply xh
   | exact wU rfl rfl rfl _
   | exact rfl)
 refine aa.br (fun _=>?_) (fun h=>(by cases h))
 refine aa.gd i1 ?_
 refine aa.br (fun _=>?_) (fun h=>?_)
 rotate_left
 ·have h:(((k:Int) != (k:Int))==false)=false:=h
  rw [ri.2 rfl] at h;cases h
 refine aa.br (fun _=>?_) (fun h=>(by cases h))
 refine aa.br (fun _=>?_) (fun h=>(by cases h))
 refine aa.br (fun h=>?_) (fun _=>?_)
 ·have h:((((a1p (List.replicate (List.length s.2.1) w) (List.set (List.replicate (Int.toNat ((List.length s.2.1:Nat):Int)) (0:Int)) (Int.toNat (k:Int)) 1073741824) k).length:Nat):Int) != ((List.replicate (Int.toNat ((List.length s.2.1:Nat):Int)) (0:Int)).length:Nat))=true:=h
  rw [hM,hr,xx.2 rfl] at h;cases h
 obtain ⟨A,hA⟩:∃A:((Int×Int×Unit)×Unit)×(P_2×Unit)×(cU×Unit)×(P_2×Unit)×Unit,A=(((w,(k:Int),()),()),((s.1,List.set (List.replicate (Int.toNat ((List.length s.2.1:Nat):Int)) (0:Int)) (Int.toNat (k:Int)) 1073741824,s.2.2),()),(Yy g 3 k 2 [] [],()),(a1q s (a1p (List.replicate (List.length s.2.1) w) (List.set (List.replicate (Int.toNat ((List.length s.2.1:Nat):Int)) (0:Int)) (Int.toNat (k:Int)) 1073741824) k),()),()):=⟨_,rfl⟩
 have hml:∀i,i≤k→(a1p (List.replicate (List.length s.2.1) w) (List.replicate (List.length s.2.1) 0) i).length=List.length s.2.1:=fun i h=>a1G hX hZ (by omega)
 refine aa.xb (aa.idx (Q:=fun r=>r=Sum.inl ((g,()),(A,(a1p (List.replicate (List.length s.2.1) w) (List.replicate (List.length s.2.1) 0) k,())))) (fun i=>((g,(i:Int),()),(A,(a1p (List.replicate (List.length s.2.1) w) (List.replicate (List.length s.2.1) 0) (min i k),())))) (fun _=>True) (List.length s.2.1) hL trivial (fun i hi _=>?_) (fun _=>?_) ?_) (fun y hy=>?_)
 ·have hq:=hml (min i k) (Nat.min_le_right _ _)
  have hlt:decide ((i:Int)<((a1p (List.replicate (List.length s.2.1) w) (List.replicate (List.length s.2.1) 0) (min i k)).length:Nat))=true:=by rw [hq];exact cr hi
  have ea:A.1.1.2.1=(k:Int):=by rw [hA]
  have eb:A.1.1.1=w:=by rw [hA]
  refine aa.br (fun _=>?_) (fun h=>absurd (hlt.symm.trans h) (by decide))
  refine aa.gd i1 ?_
  refine aa.br (fun c=>?_) (fun c=>?_)
  ·have c:decide ((i:Int)<A.1.1.2.1)=true:=c
   have c:i<k:=by rw [ea] at c;have:=of_decide_eq_true c;omega
   refine aa.gd i0 (aa.gd (bC.2 ⟨by show (0:Int)≤(i:Int);omega,of_decide_eq_true hlt⟩) (aa.gd (decide_eq_true (by show Int.toNat (i:Int)<(a1p (List.replicate (List.length s.2.1) w) (List.replicate (List.length s.2.1) 0) (min i k)).length;rw [hq,Int.toNat_natCast];exact hi)) (aa.gd (aU hi hL) ⟨_,rfl,?_,trivial⟩)))
   show ((g,(i:Int)+1,()),(A,(List.set (a1p (List.replicate (List.length s.2.1) w) (List.replicate (List.length s.2.1) 0) (min i k)) (Int.toNat (i:Int)) A.1.1.1,())))=_
   rw [eb,Int.toNat_natCast,Nat.min_eq_left (Nat.le_of_lt c),a1b hX hZ hi (a0Z hi),Nat.min_eq_left (show i+1≤k from c)];rfl
  ·have c:decide ((i:Int)<A.1.1.2.1)=false:=c
   have c:¬ i<k:=by rw [ea] at c;have:=of_decide_eq_false c;omega
   refine aa.gd (aU hi hL) ⟨_,rfl,?_,trivial⟩
   show ((g,(i:Int)+1,()),(A,(a1p (List.replicate (List.length s.2.1) w) (List.replicate (List.length s.2.1) 0) (min i k),())))=_
   rw [a1v c];rfl
 ·have hq:=hml (min (List.length s.2.1) k) (Nat.min_le_right _ _)
  refine aa.br (fun h=>?_) (fun _=>⟨_,rfl,?_⟩)
  ·have h:decide (((List.length s.2.1:Nat):Int)<((a1p (List.replicate (List.length s.2.1) w) (List.replicate (List.length s.2.1) 0) (min (List.length s.2.1) k)).length:Nat))=true:=h
   rw [hq,cq] at h;cases h
  ·show Sum.inl ((g,()),(A,(a1p (List.replicate (List.length s.2.1) w) (List.replicate (List.length s.2.1) 0) (min (List.length s.2.1) k),())))=_
   rw [Nat.min_eq_right (Nat.le_of_lt hk)]
 ·rw [hA,Nat.zero_min,a1u]
  show ((g,(0:Int),()),(_,(List.replicate (Int.toNat ((List.length s.2.1:Nat):Int)) (0:Int),())))=_
  rw [Int.toNat_natCast];rfl
 subst hy
 refine aa.of Jy ?_
 refine aa.gd i0 ?_
 subst hA
 obtain ⟨run2,stop2⟩:=a1y (g:=g) (w:=w) (n:=List.length s.2.1) (a:=k) hS hp w1 rfl hk
 have e2:=a1l (w:=w) (v0:=Yy g 3 k 2 [] []) (s0:=a1q s (a1p (List.replicate (List.length s.2.1) w) (List.replicate (List.length s.2.1) 0) k)) (b:=0) (T:=(List.length s.2.1 - k)+(1+((List.length s.2.1 - 0)+0))) ⟨Nat.zero_le _,⟨Nat.zero_le _,fun c hc=>(by cases hc)⟩,Nat.zero_le _,hi⟩ (a19 hS (hml k (Nat.le_refl _))) (by omega) (by rw [run2];exact stop2)
 rw [run2] at e2
 refine aa.gj e2 ?_
 refine aa.gj (Fz s.2.2.2.1 hS.2 (by decide)) (aa.gj eDo ?_)
 obtain ⟨B,hB⟩:∃B:(P_2×Unit)×(cU×Unit)×(P_2×Unit)×(T8×Unit)×Unit,B=(((s.1,List.set (List.replicate (Int.toNat ((List.length s.2.1:Nat):Int)) (0:Int)) (Int.toNat (k:Int)) 1073741824,s.2.2),()),(eT g 6 0 (nD s.2.2.2.1 g),()),(a1q s (List.replicate (List.length s.2.1) 0),()),(r,()),()):=⟨_,rfl⟩
 refine aa.xb (aa.idx (Q:=fun z=>z=Sum.inr (Sum.inl ((dQ s.2.2.2.1,()),((B.1,(B.2.1,B.2.2.2)),())))) (fun i=>((dQ s.2.2.2.1,(i:Int),()),(B,()))) (fun _=>True) (List.length s.2.1) hL trivial (fun i hi _=>?_) (fun _=>?_) ?_) (fun y hy=>?_)
 ·have eL:B.2.2.1.1.2.1=List.replicate (List.length s.2.1) (0:Int):=by rw [hB];rfl
  have hq:List.length B.2.2.1.1.2.1=List.length s.2.1:=by rw [eL];exact hZ
  have hlt:decide ((i:Int)<((List.length B.2.2.1.1.2.1:Nat):Int))=true:=by rw [hq];exact cr hi
  refine aa.br (fun _=>?_) (fun h=>absurd (hlt.symm.trans h) (by decide))
  refine aa.gd (bC.2 ⟨by show (0:Int)≤(i:Int);omega,of_decide_eq_true hlt⟩) (aa.gd (decide_eq_true (by show Int.toNat (i:Int)<List.length B.2.2.1.1.2.1;rw [hq,Int.toNat_natCast];exact hi)) ?_)
  refine aa.br (fun h=>?_) (fun _=>aa.gd (aU hi hL) ⟨_,rfl,rfl,trivial⟩)
  have h:(List.getD B.2.2.1.1.2.1 (Int.toNat (i:Int)) (0:Int) != 0)=true:=h
  rw [eL,Int.toNat_natCast,a0Z hi] at h;cases h
 ·have eL:B.2.2.1.1.2.1=List.replicate (List.length s.2.1) (0:Int):=by rw [hB];rfl
  have hq:List.length B.2.2.1.1.2.1=List.length s.2.1:=by rw [eL];exact hZ
  refine aa.br (fun h=>?_) (fun _=>⟨_,rfl,rfl⟩)
  have h:decide (((List.length s.2.1:Nat):Int)<((List.length B.2.2.1.1.2.1:Nat):Int))=true:=h
  rw [hq,cq] at h;cases h
 ·rw [hB];rfl
 subst hy
 refine aa.of a1E (aa.of Jy ?_)
 subst hB
 refine aa.br (fun _=>?_) (fun h=>(by cases h))
 refine aa.gj e13 ?_
 refine aa.br (fun hd=>?_) (fun _=>Cw)
 obtain rfl:=hrr (zT (eq_of_beq hd))
 refine aa.gj (K8 (nD s.2.2.2.1 g) (Nat.le_trans (vP hS.2 g) (by decide))) ?_
 exact aa.br (fun _=>Cw) (fun h=>(by cases h))
def a1e (x:af [.int,z3,z5]) (h:Jo [.int,z3,z5] x):a1n x=some (true,()):=by
 obtain ⟨g,⟨w,a,u1⟩,s,u⟩:=x
 obtain ⟨hg,hw,hs,_⟩:=h
 exact a1m a0g g w a s hg hs.2.2.2.1
end Go.Proofs.YtdbjakibneeeiaaGreatDoor.Ex.d
