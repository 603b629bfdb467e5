/- Layer 18 (snap), purely: who may go on. -/
import Derived.Test.YtdbjakibneeeiaaGreatDoorKExPl
import Derived.Test.YtdbjakibneeeiaaGreatDoorKG26ExO
import Derived.Test.YtdbjakibneeeiaaGreatDoorKG40ExLv
import Derived.Test.YtdbjakibneeeiaaGreatDoorKG36ExPc
import Derived.Test.YtdbjakibneeeiaaGreatDoorKPoAll
import Derived.Test.YtdbjakibneeeiaaGreatDoorKTxnREnc
set_option linter.all false
set_option maxHeartbeats 40000000
set_option maxRecDepth 100000
noncomputable section
namespace Go.Proofs.YtdbjakibneeeiaaGreatDoor.Ex
open Go.RowKit Sx
def IM.may {s:P_2} (h:IM s):qP s:=by
 obtain ⟨hc,h1,h2,_,_,_,h3⟩:=h
 have:=hc.1
 have:=hc.2.1
 refine ⟨h1,by omega,by omega,by omega,fun x hx=>?_⟩
 obtain ⟨i,hi,rfl⟩:=List.getElem_of_mem hx
 have:=(h3 i hi).1
 unfold GA at this
 rwa [bE hi] at this
def SO (s:P_2) (h:uP s):aa (LD (s,())) fun r=>r.1=true→qP s:=(IE s h).mono fun r hr h1=>(hr.1 h1).may
def bG (v:cU) (w:Int) (s:P_2):Prop:=
 (v.2.1=0∧0≤v.2.2.1∧v.2.2.1<(List.length s.2.1:Int))∨(v.2.1=1∧0≤v.2.2.1∧v.2.2.1<(List.length s.2.1:Int))∨(v.2.1=2∧0≤v.2.2.1∧v.2.2.1<(List.length s.2.1:Int))∨(v.2.1=3∧bT s.2.1 v.2.2.1=true)∨
 (v.2.1=4∧∀k,k<List.length s.2.1→aM s.2.1 (k:Int) w=true)∨(v.2.1=5∧(0≤v.2.2.1∧v.2.2.1<(List.length s.2.1:Int))∧aM s.2.1 v.2.2.1 w=true)
def ue (v:cU) (w:Int) (s:P_2) (h:uP s):∃m:Bool,LD (s,())=some (m,())∧(m=true→qP s)∧aa (F_9 (v,w,s,())) fun r=>r.1=true↔(1≤w∧m=true∧bG v w s):=by
 obtain ⟨⟨m,u⟩,em,hm⟩:=SO s h
 refine ⟨m,em,hm,?_⟩
 refine aa.of (XA (v,w,s,())) ?_
 refine aa.br (fun hw=>?_) (fun hw=>⟨_,rfl,?_⟩)
 rotate_left
 ·have:w<1:=by
   by_cases c:w<1
   ·exact c
   ·have hw:(decide (w<(1:Int))==false)=false:=hw
    rw [decide_eq_false c] at hw;cases hw
  exact ⟨fun h=>(by cases h),fun h=>by omega⟩
 have hw:1≤w:=Int.not_lt.1 (of_decide_eq_false (eq_of_beq hw))
 refine aa.gj em ?_
 refine aa.br (fun h1=>⟨_,rfl,⟨fun h=>(by cases h),fun h=>?_⟩⟩) (fun h1=>?_)
 ·have h1:(!m)=true:=h1
  rw [h.2.1] at h1;cases h1
 have h1:m=true:=zT h1
 have hmo:=hm h1
 have hlen:(((List.length s.2.2.2.1:Nat):Int))=(List.length s.2.1:Int):=by rw [hmo.2.1]
 have lo:∀{ph:Int},ph=0∨ph=1∨ph=2→v.2.1=ph→aa (az (decide ((0:Int)≤v.2.2.1)==true) (some (decide (v.2.2.1<((List.length s.2.2.2.1:Nat):Int)),())) (some (false,()))) fun r:Bool×Unit=>r.1=true↔(1≤w∧m=true∧bG v w s):=by
  intro ph hph hv
  have hi:bG v w s↔(0≤v.2.2.1∧v.2.2.1<(List.length s.2.1:Int)):=by
   unfold bG
   constructor
   ·rintro (⟨_,h⟩ | ⟨_,h⟩ | ⟨_,h⟩ | ⟨h,_⟩ | ⟨h,_⟩ | ⟨h,_⟩)
    ·exact h
    ·exact h
    ·exact h
    all_goals (exfalso;omega)
   ·intro h
    rcases hph with rfl | rfl | rfl
    ·exact .inl ⟨hv,h⟩
    ·exact .inr (.inl ⟨hv,h⟩)
    ·exact .inr (.inr (.inl ⟨hv,h⟩))
  rw [hi,hlen]
  refine aa.br (fun h=>⟨_,rfl,?_⟩) (fun h=>⟨_,rfl,?_⟩)
  ·have h:=of_decide_eq_true (eq_of_beq h)
   exact decide_eq_true_iff.trans ⟨fun k=>⟨hw,h1,h,k⟩,fun k=>k.2.2.2⟩
  ·have h:¬ (0:Int)≤v.2.2.1:=fun c=>by rw [decide_eq_true c] at h;cases h
   exact ⟨fun k=>(by cases k),fun k=>absurd k.2.2.1 h⟩
 refine aa.br (fun p=>lo (ph:=0) (by simp) (eq_of_beq (α:=Int) p)) (fun p0=>?_)
 refine aa.br (fun p=>lo (ph:=1) (by simp) (eq_of_beq (α:=Int) p)) (fun p1=>?_)
 refine aa.br (fun p=>lo (ph:=2) (by simp) (eq_of_beq (α:=Int) p)) (fun p2=>?_)
 have p0:v.2.1≠0:=ne_of_beq_false (α:=Int) p0
 have p1:v.2.1≠1:=ne_of_beq_false (α:=Int) p1
 have p2:v.2.1≠2:=ne_of_beq_false (α:=Int) p2
 refine aa.br (fun p=>?_) (fun p3=>?_)
 ·have p:v.2.1=3:=eq_of_beq (α:=Int) p
  refine aa.gj (rI _ _) ⟨_,rfl,?_⟩
  show bT s.2.1 v.2.2.1=true↔_
  unfold bG
  constructor
  ·intro k;exact ⟨hw,h1,.inr (.inr (.inr (.inl ⟨p,k⟩)))⟩
  ·rintro ⟨_,_,(⟨h,_⟩ | ⟨h,_⟩ | ⟨h,_⟩ | ⟨_,h⟩ | ⟨h,_⟩ | ⟨h,_⟩)⟩
   any_goals (exfalso;omega)
   exact h
 have p3:v.2.1≠3:=ne_of_beq_false (α:=Int) p3
 refine aa.br (fun p=>?_) (fun p4=>?_)
 ·have p:v.2.1=4:=eq_of_beq (α:=Int) p
  refine aa.xb (E9 _ _ h.1) fun y hy=>⟨_,rfl,?_⟩
  obtain ⟨j,e,hj⟩:=hy
  have e:(show Int from y.1)=(j:Int):=e
  have hj:kX (fun k=>!aM s.2.1 (k:Int) w) (List.length s.2.1) 0 j:=hj
  have hq:((show Int from y.1)==((List.length s.2.1:Nat):Int))=true↔∀k,k<List.length s.2.1→aM s.2.1 (k:Int) w=true:=by
   refine (beq_iff_eq (α:=Int)).trans ?_
   rw [e]
   constructor
   ·intro e2 k hk
    have e2:(j:Int)=((List.length s.2.1:Nat):Int):=e2
    have:=hj.2.2.2 k (Nat.zero_le _) (by omega)
    have:(!aM s.2.1 (k:Int) w)=false:=this
    exact zT this
   ·intro ha
    have:=hj.2.1
    show (j:Int)=((List.length s.2.1:Nat):Int)
    by_cases c:j<List.length s.2.1
    ·have h2:(!aM s.2.1 (j:Int) w)=true:=hj.2.2.1 c
     rw [ha j c] at h2;cases h2
    ·omega
  refine hq.trans ?_
  unfold bG
  constructor
  ·intro k;exact ⟨hw,h1,.inr (.inr (.inr (.inr (.inl ⟨p,k⟩))))⟩
  ·rintro ⟨_,_,(⟨h,_⟩ | ⟨h,_⟩ | ⟨h,_⟩ | ⟨h,_⟩ | ⟨_,h⟩ | ⟨h,_⟩)⟩
   any_goals (exfalso;omega)
   exact h
 have p4:v.2.1≠4:=ne_of_beq_false (α:=Int) p4
 refine aa.br (fun p=>?_) (fun p5=>⟨_,rfl,?_⟩)
 ·have p:v.2.1=5:=eq_of_beq (α:=Int) p
  refine aa.xb (HF _ _ h.1) fun y hy=>?_
  refine aa.xb (yH _ _ (Nat.le_trans hy.1 h.1)) fun z hz=>⟨_,rfl,?_⟩
  refine hz.trans ((hy.2 v.2.2.1).trans ?_)
  show (∃k:Nat,v.2.2.1=(k:Int)∧k<List.length s.2.1∧aM s.2.1 (k:Int) w=true)↔_
  unfold bG
  constructor
  ·rintro ⟨k,e,hk,hh⟩
   refine ⟨hw,h1,.inr (.inr (.inr (.inr (.inr ⟨p,⟨by omega,by omega⟩,?_⟩))))⟩
   rw [e];exact hh
  ·rintro ⟨_,_,(⟨h,_⟩ | ⟨h,_⟩ | ⟨h,_⟩ | ⟨h,_⟩ | ⟨h,_⟩ | ⟨_,h,hh⟩)⟩
   any_goals (exfalso;omega)
   exact ⟨v.2.2.1.toNat,by omega,by omega,by rw [Int.toNat_of_nonneg h.1];exact hh⟩
 ·have p5:v.2.1≠5:=ne_of_beq_false (α:=Int) p5
  refine ⟨fun h=>(by cases h),?_⟩
  unfold bG
  rintro ⟨_,_,(⟨h,_⟩ | ⟨h,_⟩ | ⟨h,_⟩ | ⟨h,_⟩ | ⟨h,_⟩ | ⟨h,_⟩)⟩ <;> (exfalso;omega)
end Go.Proofs.YtdbjakibneeeiaaGreatDoor.Ex
namespace Go.Proofs.YtdbjakibneeeiaaGreatDoor.Ex
open Go.RowKit Sx
def WV (a:dc):Prop:=Gc a∧dx a.1=true
def TP (c:cQ):Prop:=List.length c.1≤20∧∀a:dc,a∈c.1→WV a
def lX (n:Nat) (L:List cQ):Prop:=L.length≤n∧∀c:cQ,c∈L→TP c
def lX.cl {n:Nat} {L:List cQ} (h:lX n L) (hn:n≤1000000):H9 L:=
 ⟨Nat.le_trans h.1 hn,fun c hc=>⟨Nat.le_trans (h.2 c hc).1 (by decide),fun a ha=>Nat.le_trans ((h.2 c hc).2 a ha).1.1 (by decide)⟩⟩
def lX.mono {n m:Nat} {L:List cQ} (h:lX n L) (hn:n≤m):lX m L:=⟨Nat.le_trans h.1 hn,h.2⟩
def gp (c:cQ):List dc:=c.1
def gw (L:List cQ):List dc:=L.flatMap gp
def Na (t:xu):txn.Tx:=queue.cz t
def yP (t:txn.Tx):xu:=queue.fK t
def s4 (x:dc):ax.PA:=ax.cX x
def nt (p:ax.PA):dc:=ax.kB p
def wR:∀L:List cQ,ax.mN L=gw L
 | []=>rfl
 | c::L=>by
  show List.append (gp c) (ax.mN L)=gw (c::L)
  have:=wR L
  exact (congrArg (List.append (gp c)) this).trans (by unfold gw;rfl)
def kY (L:List cQ):List ax.PA:=ax.zu (fun p:ax.PA=>p.1) ((gw L).map s4)
def tS (L:List cQ):ax.uf L=kY L:=by
 show ax.zu (fun p:ax.PA=>p.1) (List.map s4 (ax.mN L))=_
 exact congrArg (fun M:List dc=>ax.zu (fun p:ax.PA=>p.1) (M.map s4)) (wR L)
def dQ (L:List cQ):List dc:=(kY L).map nt
def GB:(yP∘Na)=id:=funext fun t=>rfl
def LU:(Na∘yP)=id:=funext fun t=>rfl
def zm:∀x:dc,nt (s4 x)=x
 | (s,b,L,u)=>by
  show (s,b,(List.map yP (List.map Na L)),())=(s,b,L,u)
  rw [List.map_map,GB,List.map_id]
def GI:∀p:ax.PA,s4 (nt p)=p
 | (s,b,L)=>by
  show (s,b,List.map Na (List.map yP L))=(s,b,L)
  rw [List.map_map,LU,List.map_id]
def Ft:(s4∘nt)=id:=funext GI
def ir (L:List cQ):(dQ L).map s4=kY L:=by
 unfold dQ
 rw [List.map_map,Ft,List.map_id]
def oy {x:dc} {L:List cQ}:x∈gw L↔∃c:cQ,c∈L∧x∈gp c:=List.mem_flatMap
def vk {L:List cQ} {x:dc} (h:x∈dQ L):x∈gw L:=by
 obtain ⟨p,hp,rfl⟩:=List.mem_map.1 h
 obtain ⟨y,hy,rfl⟩:=List.mem_map.1 ((ax.yC _ _).mem_iff.1 hp)
 rw [zm];exact hy
def Dg (L:List cQ):(dQ L).length=(gw L).length:=by
 unfold dQ kY
 rw [List.length_map,ax.Cb,List.length_map]
def nW {n:Nat}:∀{L:List cQ},(∀c:cQ,c∈L→List.length c.1≤n)→(gw L).length≤L.length*n
 | [],_=>by simp [gw]
 | c::L,h=>by
  have h1:(gp c).length≤n:=h c List.mem_cons_self
  have h2:=nW (L:=L) fun x hx=>h x (List.mem_cons_of_mem _ hx)
  have e:gw (c::L)=gp c++gw L:=rfl
  rw [e,List.length_append,List.length_cons,Nat.succ_mul]
  omega
def KI {t:xu} (h:ByteArray.size t.2.2.2.2.2.1≤500):ax.PJ t=true:=by
 have:ByteArray.size t.2.2.2.2.2.1≤maxLen:=Nat.le_trans h (by decide)
 exact decide_eq_true this
def Hg {L:List xu} (h:∀t∈L,ByteArray.size t.2.2.2.2.2.1≤500):L.all (fun t=>ax.PJ t)=true:=List.all_eq_true.2 fun t ht=>KI (h t ht)
def Ga {a:dc} (h:Gc a):ax.A7 a=true:=by
 have h1:decide (List.length a.2.2.1≤1000000)=true:=decide_eq_true (Nat.le_trans h.1 (by decide))
 have h2:List.all (a.2.2.1:List xu) (fun t=>ax.PJ t)=true:=Hg h.2
 exact Bool.and_eq_true_iff.2 ⟨h1,h2⟩
def KZ {n:Nat} {L:List cQ} (h:lX n L) (hn:n≤1000):ax.M7 L=true:=by
 have h1:=nW (n:=20) (L:=L) fun c hc=>(h.2 c hc).1
 have h2:=h.1
 show (decide (List.length L≤100000)&&(decide (List.length (ax.mN L)≤100000)&&(List.all (ax.mN L) ax.A7&&List.all (ax.mN L) fun x=>dx x.1)))=true
 have key:∀M:List dc,M=gw L→(decide (List.length L≤100000)&&(decide (List.length M≤100000)&&(List.all M (fun a=>ax.A7 a)&&List.all M fun x=>dx x.1)))=true:=by
  intro M hM
  subst hM
  have e1:decide (List.length L≤100000)=true:=decide_eq_true (by omega)
  have e2:decide ((gw L).length≤100000)=true:=decide_eq_true (by omega)
  have e3:List.all (gw L) (fun a=>ax.A7 a)=true:=List.all_eq_true.2 fun x hx=>by
   obtain ⟨c,h3,h4⟩:=oy.1 hx
   exact Ga ((h.2 c h3).2 x h4).1
  have e4:List.all (gw L) (fun x=>dx x.1)=true:=List.all_eq_true.2 fun x hx=>by
   obtain ⟨c,h3,h4⟩:=oy.1 hx
   exact ((h.2 c h3).2 x h4).2
  rw [e1,e2,e3,e4];rfl
 exact key _ (wR L)
def join_eq {n:Nat} (L:List cQ) (h:lX n L) (hn:n≤1000):My (L,())=some (dQ L,()):=by
 have e:My (L,())=bif ax.M7 L then some (List.map nt (ax.uf L),()) else none:=by unfold My;rfl
 rw [e,KZ h hn,tS];rfl
def IC (l:List ax.PA) (p:ax.PA):(ax.Hj l p).length≤l.length+1∧∀x∈ax.Hj l p,x∈l∨x=p:=by
 unfold ax.Hj
 split
 ·exact ⟨Nat.le_succ _,fun x h=>.inl h⟩
 ·exact ⟨by simp,fun x h=>by simpa using h⟩
def qT (P:List ax.PA):(ax.ry P).length≤P.length∧∀x∈ax.ry P,x∈P:=by
 have key:∀(P l:List ax.PA),(P.foldl ax.Hj l).length≤l.length+P.length∧∀x∈P.foldl ax.Hj l,x∈l∨x∈P:=by
  intro P
  induction P with
  | nil=>intro l;exact ⟨Nat.le_refl _,fun x h=>.inl h⟩
  | cons p P ih=>
   intro l
   obtain ⟨h1,h2⟩:=ih (ax.Hj l p)
   have h3:=IC l p
   refine ⟨by rw [List.foldl_cons,List.length_cons];omega,fun x hx=>?_⟩
   rcases h2 x hx with h | h
   ·rcases h3.2 x h with h | rfl
    ·exact .inl h
    ·exact .inr List.mem_cons_self
   ·exact .inr (List.mem_cons_of_mem _ h)
 obtain ⟨h1,h2⟩:=key P []
 refine ⟨by rw [List.length_nil,Nat.zero_add] at h1;exact h1,fun x hx=>?_⟩
 rcases h2 x hx with h | h
 ·cases h
 ·exact h
def C4 {k:Nat}:∀{l:List Nat},(∀x∈l,x≤k)→l.sum≤l.length*k
 | [],_=>by simp
 | x::l,h=>by
  have h1:=h x (by simp)
  have h2:=C4 (l:=l) fun y hy=>h y (by simp [hy])
  rw [List.sum_cons,List.length_cons,Nat.succ_mul]
  omega
def oU {P:List ax.PA} {n:Nat} (h:∀p∈P,p.2.2.length≤n) (g:Int):(ax.bg P g).length≤P.length*n:=by
 unfold ax.bg
 refine Nat.le_trans (aL.GP _ _) ?_
 unfold aL.dG
 refine Nat.le_trans (C4 (k:=n) fun x hx=>?_) ?_
 ·simp only [List.mem_map] at hx
  obtain ⟨l,⟨p,hp,rfl⟩,rfl⟩:=hx
  exact Nat.le_trans (aL.FW _ _) (h p ((qT P).2 p hp))
 ·rw [List.length_map,List.length_map]
  exact Nat.mul_le_mul_right _ (qT P).1
def CE (P:List ax.PA) (g:Int):List xu:=(ax.bg P g).map yP
def nD (L:List cQ) (g:Int):T8:=(0,(0,0,0,0,0,ByteArray.empty,()),CE (kY L) g,0,())
def qf {n:Nat} {L:List cQ} (h:lX n L):(kY L).length≤n*20:=by
 have h1:=nW (n:=20) (L:=L) fun c hc=>(h.2 c hc).1
 rw [← ir,List.length_map,Dg]
 exact Nat.le_trans h1 (Nat.mul_le_mul_right _ h.1)
def vG {n:Nat} {L:List cQ} (h:lX n L):∀p∈kY L,p.2.2.length≤20:=by
 intro p hp
 rw [← ir] at hp
 obtain ⟨a,ha,rfl⟩:=List.mem_map.1 hp
 obtain ⟨c,h1,h2⟩:=oy.1 (vk ha)
 have h3:(List.map Na a.2.2.1).length≤20:=by rw [List.length_map];exact ((h.2 c h1).2 a h2).1.1
 exact h3
def E5 {n:Nat} {L:List cQ} (h:lX n L) (g:Int):(CE (kY L) g).length≤n*400:=by
 unfold CE
 rw [List.length_map]
 refine Nat.le_trans (oU (vG h) g) ?_
 have:=qf h
 omega
def vP {n:Nat} {L:List cQ} (h:lX n L) (g:Int):List.length (nD L g).2.2.1≤n*400:=E5 h g
def qA {n:Nat} {L:List cQ} (g:Int) (h:lX n L) (hn:n≤1000) (hg:dx g=true):J8 (dQ L,g,())=some (CE (kY L) g,()):=by
 have e:J8 (dQ L,g,())=bif ax.rW (dQ L) g then some (CE (List.map s4 (dQ L)) g,()) else none:=by unfold J8;rfl
 have e2:ax.rW (dQ L) g=true:=by
  show (decide (List.length (dQ L)≤1000000)&&(List.all (dQ L) (fun a=>ax.A7 a)&&(dx g&&decide ((ax.bg (List.map s4 (dQ L)) g).length≤1000000))))=true
  have h1:decide (List.length (dQ L)≤1000000)=true:=by
   have:=qf h
   rw [← ir,List.length_map] at this
   exact decide_eq_true (by omega)
  have h2:List.all (dQ L) (fun a=>ax.A7 a)=true:=List.all_eq_true.2 fun a ha=>by
   obtain ⟨c,h1,h2⟩:=oy.1 (vk ha)
   exact Ga ((h.2 c h1).2 a h2).1
  have h3:decide ((ax.bg (List.map s4 (dQ L)) g).length≤1000000)=true:=by
   rw [ir]
   have h1:=oU (vG h) g
   have h2:=qf h
   exact decide_eq_true (by omega)
  rw [h1,h2,h3,hg];rfl
 rw [e,e2,ir];rfl
def zY {n:Nat} (v:cU) (L:List cQ) (h:lX n L) (hn:n≤1000) (hg:dx v.1=true):J6 (v,L,())=some (nD L v.1,()):=by
 refine (Xg (v,L,())).trans ?_
 refine (aY (join_eq L h hn)).trans ?_
 exact aY (qA v.1 h hn hg)
end Go.Proofs.YtdbjakibneeeiaaGreatDoor.Ex
namespace Go.Proofs.YtdbjakibneeeiaaGreatDoor.Ex
open Go.RowKit Sx
def cm (v:cU) (n:Int):cU:=bif v.2.2.1+1==n then (v.1,v.2.1+1,0,v.2.2.2) else (v.1,v.2.1,v.2.2.1+1,v.2.2.2)
def dn (v:cU):cU:=bif decide (IntKind.wrap IntKind.i64 (v.2.2.2.1+(1:Int))≥(2:Int)) then (v.1,3,0,IntKind.wrap IntKind.i64 (v.2.2.2.1+(1:Int)),[],[],v.2.2.2.2.2.2) else (v.1,0,0,IntKind.wrap IntKind.i64 (v.2.2.2.1+(1:Int)),[],[],v.2.2.2.2.2.2)
def kM (v:cU) (l:List Int):cU:=(v.1,v.2.1,v.2.2.1,v.2.2.2.1,l,v.2.2.2.2.2)
def mP (v:cU) (l:List cQ):cU:=(v.1,v.2.1,v.2.2.1,v.2.2.2.1,v.2.2.2.2.1,l,v.2.2.2.2.2.2)
abbrev fJ:cQ:=([],0,())
def gl (s:P_2) (i:Int):cQ:=List.getD s.2.2.2.1 i.toNat fJ
def nJ (v:cU) (s:P_2):Bool:=bT s.2.1 v.2.2.1&&(decide (v.2.2.1<(List.length v.2.2.2.2.1:Int))&&(List.getD v.2.2.2.2.1 v.2.2.1.toNat (0:Int)==(gl s v.2.2.1).2.1))
def fT (u:cU):cU:=bif u.2.1 != 2 then (u.1,6,u.2.2.1,u.2.2.2.1,u.2.2.2.2.1,u.2.2.2.2.2.1,nD u.2.2.2.2.2.1 u.1,()) else u
def kE (v:cU) (s:P_2):cU:=bif nJ v s then fT (cm v s.1.1) else dn v
def aB (v:cU) (w:Int) (s:P_2):cU×P_2×Int×Unit:=
 bif v.2.1==0 then (bif bT s.2.1 v.2.2.1 then cm (kM v ((v.2.2.2.2.1:List Int)++[(gl s v.2.2.1).2.1])) s.1.1 else dn v,s,0,())
 else bif v.2.1==1 then (cm (mP v ((v.2.2.2.2.2.1:List cQ)++[gl s v.2.2.1])) s.1.1,s,0,())
 else bif v.2.1==2 then (kE v s,s,bif v.2.2.1==0 then 1 else 0,())
 else bif v.2.1==3 then (cm v s.1.1,(s.1,List.set s.2.1 v.2.2.1.toNat w,s.2.2),0,())
 else bif v.2.1==4 then ((v.1,5,0,v.2.2.2.1,v.2.2.2.2.1,v.2.2.2.2.2.1,nD s.2.2.2.1 v.1,()),s,2,())
 else (cm v s.1.1,(s.1,List.set s.2.1 v.2.2.1.toNat (0:Int),s.2.2),0,())
def kL (n:Nat) (v:cU):Prop:=List.length v.2.2.2.2.1≤n∧lX n v.2.2.2.2.2.1∧List.length v.2.2.2.2.2.2.1.2.2.1≤1000000∧dx v.1=true
def xW (s:P_2):Prop:=List.length s.2.1≤10∧lX 10 s.2.2.2.1
def kL.cl {n:Nat} {v:cU} (h:kL n v) (hn:n≤1000):Iw v:=⟨Nat.le_trans h.1 (by omega),h.2.1.cl (by omega),h.2.2.1⟩
def xW.cl {s:P_2} (h:xW s):uP s:=⟨Nat.le_trans h.1 (by decide),h.2.cl (by decide)⟩
def kL.mono {n m:Nat} {v:cU} (h:kL n v) (hn:n≤m):kL m v:=⟨Nat.le_trans h.1 hn,h.2.1.mono hn,h.2.2⟩
def yE (v:cU) (s:P_2) (h1:dx (v.2.2.1+(1:Int))=true) (h2:dx (v.2.1+(1:Int))=true):F_8 (v,s,())=some (cm v s.1.1,()):=by
 refine (WJ (v,s,())).trans ?_
 refine (aT h1).trans ?_
 unfold cm
 cases h:(v.2.2.1+1==s.1.1) with
 | false=>exact aN rfl
 | true=>exact (aZ rfl).trans (aT h2)
def Cs (v:cU):Je (v,())=some (dn v,()):=by
 refine (Xh (v,())).trans ?_
 unfold dn
 cases h:decide (IntKind.wrap IntKind.i64 (v.2.2.2.1+(1:Int))≥(2:Int)) with
 | false=>exact aN rfl
 | true=>exact aZ rfl
def kL.on {n:Nat} {v:cU} (h:kL n v) (k:Int):kL n (cm v k):=by
 unfold cm
 cases (v.2.2.1+1==k) <;> exact h
def kL.fail {n:Nat} {v:cU} (h:kL n v):kL n (dn v):=by
 unfold dn
 cases decide (IntKind.wrap IntKind.i64 (v.2.2.2.1+(1:Int))≥(2:Int)) <;> exact ⟨Nat.zero_le _,⟨Nat.zero_le _,fun c hc=>by cases hc⟩,h.2.2.1,h.2.2.2⟩
def Ke {s:P_2} (h:xW s) {i:Int} (h1:0≤i) (h2:i<(List.length s.2.2.2.1:Int)):TP (gl s i):=by
 have h3:i.toNat<List.length s.2.2.2.1:=by omega
 unfold gl
 rw [bE h3]
 exact h.2.2 _ (List.getElem_mem h3)
def Hs {n:Nat} (v:cU) (w:Int) (s:P_2) (hn:n≤1000) (hv:kL n v) (hs:xW s) (hl:List.length s.2.2.2.1=List.length s.2.1) (hp:v.2.1=0) (h1:0≤v.2.2.1) (h2:v.2.2.1<(List.length s.2.1:Int)) :
  MG (v,w,s,())=some (bif bT s.2.1 v.2.2.1 then cm (kM v ((v.2.2.2.2.1:List Int)++[(gl s v.2.2.1).2.1])) s.1.1 else dn v,s,(0:Int),()):=by
 refine (XP (v,w,s,())).trans ?_
 refine (aY (rI _ _)).trans ?_
 cases hf:bT s.2.1 v.2.2.1 with
 | false=>
  refine (aZ (by rfl)).trans ?_
  exact aY (Cs v)
 | true=>
  refine (aN (by rfl)).trans ?_
  have hb:∀x:Int,(Nat.ble (List.length v.2.2.2.2.1+List.length [x]) 9223372036854775807&&Nat.ble ((List.length v.2.2.2.2.1+List.length [x])*8) 140737488355328)=true:=fun x=>by
   have:=hv.1
   rw [Bool.and_eq_true,Nat.ble_eq,Nat.ble_eq,List.length_singleton];omega
  have hi:v.2.2.1<(List.length s.2.2.2.1:Int):=by rw [hl];exact h2
  refine (aY ((aT (bC.2 ⟨h1,hi⟩)).trans ((aT (decide_eq_true (by show v.2.2.1.toNat<List.length s.2.2.2.1;omega))).trans (EH ((aY (iB (Nat.le_trans hv.1 (by omega)))).trans (aT (hb _))) ((aY (iB (Nat.le_trans hv.1 (by omega)))).trans (aT (hb _))) (wU rfl rfl rfl _))))).trans ?_
  have hs2:=hs.1
  refine (aY (yE (kM v ((v.2.2.2.2.1:List Int)++[(gl s v.2.2.1).2.1])) s (bS (by show _≤v.2.2.1+1;omega) (by show v.2.2.1+1≤_;omega)) (bS (by show _≤v.2.1+1;omega) (by show v.2.1+1≤_;omega)))).trans ?_
  rfl
def copy_eq {n:Nat} (v:cU) (w:Int) (s:P_2) (hn:n≤1000) (hv:kL n v) (hs:xW s) (hl:List.length s.2.2.2.1=List.length s.2.1) (hp:v.2.1=1) (h1:0≤v.2.2.1) (h2:v.2.2.1<(List.length s.2.1:Int)) :
  Mh (v,w,s,())=some (cm (mP v ((v.2.2.2.2.2.1:List cQ)++[gl s v.2.2.1])) s.1.1,s,(0:Int),()):=by
 refine (WN (v,w,s,())).trans ?_
 have hb:∀x:cQ,(Nat.ble (List.length v.2.2.2.2.2.1+List.length [x]) 9223372036854775807&&Nat.ble ((List.length v.2.2.2.2.2.1+List.length [x])*32) 140737488355328)=true:=fun x=>by
  have:=hv.2.1.1
  rw [Bool.and_eq_true,Nat.ble_eq,Nat.ble_eq,List.length_singleton];omega
 have hi:v.2.2.1<(List.length s.2.2.2.1:Int):=by rw [hl];exact h2
 refine (aY ((aT (bC.2 ⟨h1,hi⟩)).trans ((aT (decide_eq_true (by show v.2.2.1.toNat<List.length s.2.2.2.1;omega))).trans (EH ((aY (iB (Nat.le_trans hv.2.1.1 (by omega)))).trans (aT (hb _))) ((aY (iB (Nat.le_trans hv.2.1.1 (by omega)))).trans (aT (hb _))) (wU rfl rfl rfl _))))).trans ?_
 have hs2:=hs.1
 refine (aY (yE (mP v ((v.2.2.2.2.2.1:List cQ)++[gl s v.2.2.1])) s (bS (by show _≤v.2.2.1+1;omega) (by show v.2.2.1+1≤_;omega)) (bS (by show _≤v.2.1+1;omega) (by show v.2.1+1≤_;omega)))).trans ?_
 rfl
def Iu (v:cU) (s:P_2) (hl:List.length s.2.2.2.1=List.length s.2.1) (h1:0≤v.2.2.1) (h2:v.2.2.1<(List.length s.2.1:Int)):Lp (v,s,())=some (nJ v s,()):=by
 refine (WY (v,s,())).trans ?_
 refine (aY (rI _ _)).trans ?_
 unfold nJ
 cases bT s.2.1 v.2.2.1 with
 | false=>rfl
 | true=>
  refine (aZ (by rfl)).trans ?_
  cases h3:decide (v.2.2.1<(List.length v.2.2.2.2.1:Int)) with
  | false=>exact aN rfl
  | true=>
   have h4:=of_decide_eq_true h3
   have hi:v.2.2.1<(List.length s.2.2.2.1:Int):=by rw [hl];exact h2
   refine (aZ rfl).trans ?_
   refine (aT (bC.2 ⟨h1,h4⟩)).trans ((aT (decide_eq_true (by show v.2.2.1.toNat<List.length v.2.2.2.2.1;omega))).trans ?_)
   exact (aT (bC.2 ⟨h1,hi⟩)).trans (aT (decide_eq_true (by show v.2.2.1.toNat<List.length s.2.2.2.1;omega)))
def JC {n:Nat} (v:cU) (w:Int) (s:P_2) (hn:n≤1000) (hv:kL n v) (hs:xW s) (hl:List.length s.2.2.2.1=List.length s.2.1) (hp:v.2.1=2) (h1:0≤v.2.2.1) (h2:v.2.2.1<(List.length s.2.1:Int)) :
  MI (v,w,s,())=some (kE v s,s,(bif v.2.2.1==0 then (1:Int) else (0:Int)),()):=by
 have hs2:=hs.1
 have key:∀told:Int,xb (Lp (v,s,())) (fun y0:Bool×Unit=>az (!y0.1) (xb (Je (v,())) fun y1:cU×Unit=>some (y1.1,s,told,())) (xb (F_8 (v,s,())) fun y2:cU×Unit=>az (y2.1.2.1 != (2:Int)) (xb (J6 (y2.1,y2.1.2.2.2.2.2.1,())) fun y3:T8×Unit=>some ((y2.1.1,6,y2.1.2.2.1,y2.1.2.2.2.1,y2.1.2.2.2.2.1,y2.1.2.2.2.2.2.1,y3),s,told,())) (some (y2.1,s,told,()))))=some (kE v s,s,told,()):=by
  intro told
  refine (aY (Iu v s hl h1 h2)).trans ?_
  unfold kE
  cases nJ v s with
  | false=>exact (aZ rfl).trans (aY (Cs v))
  | true=>
   refine (aN rfl).trans ?_
   refine (aY (yE v s (bS (by show _≤v.2.2.1+1;omega) (by show v.2.2.1+1≤_;omega)) (bS (by show _≤v.2.1+1;omega) (by show v.2.1+1≤_;omega)))).trans ?_
   show az ((cm v s.1.1).2.1 != (2:Int)) _ _=some (fT (cm v s.1.1),s,told,())
   have hg:=hv.on s.1.1
   generalize cm v s.1.1=u at hg ⊢
   unfold fT
   cases h:(u.2.1 != (2:Int)) with
   | false=>rfl
   | true=>
    refine (aZ rfl).trans ?_
    exact aY (zY u _ hg.2.1 hn hg.2.2.2)
 refine (Xy (v,w,s,())).trans ?_
 cases h:(v.2.2.1==(0:Int)) with
 | false=>exact (aN rfl).trans (key 0)
 | true=>exact (aZ rfl).trans (key 1)
def NZ (y:af DP):cG 0 y=MG y:=by unfold cG;rw [beq_self_eq_true,cond_true]
def Og (y:af DP):cG 1 y=Mh y:=by unfold cG;rw [beq_false_of_ne (show (1:Int)≠0 by decide),cond_false,beq_self_eq_true,cond_true]
def PS (y:af DP):cG 2 y=MI y:=by unfold cG;rw [beq_false_of_ne (show (2:Int)≠0 by decide),cond_false,beq_false_of_ne (show (2:Int)≠1 by decide),cond_false,beq_self_eq_true,cond_true]
def Pm (y:af DP):cG 3 y=Eh y:=by unfold cG;rw [beq_false_of_ne (show (3:Int)≠0 by decide),cond_false,beq_false_of_ne (show (3:Int)≠1 by decide),cond_false,beq_false_of_ne (show (3:Int)≠2 by decide),cond_false,beq_self_eq_true,cond_true]
def MW (y:af DP):cG 4 y=EJ y:=by unfold cG;rw [beq_false_of_ne (show (4:Int)≠0 by decide),cond_false,beq_false_of_ne (show (4:Int)≠1 by decide),cond_false,beq_false_of_ne (show (4:Int)≠2 by decide),cond_false,beq_false_of_ne (show (4:Int)≠3 by decide),cond_false,beq_self_eq_true,cond_true]
def N5 (y:af DP):cG 5 y=Fu y:=by unfold cG;rw [beq_false_of_ne (show (5:Int)≠0 by decide),cond_false,beq_false_of_ne (show (5:Int)≠1 by decide),cond_false,beq_false_of_ne (show (5:Int)≠2 by decide),cond_false,beq_false_of_ne (show (5:Int)≠3 by decide),cond_false,beq_false_of_ne (show (5:Int)≠4 by decide),cond_false,beq_self_eq_true,cond_true]
def step_eq {n:Nat} (v:cU) (w:Int) (s:P_2) (hn:n<1000) (hv:kL n v) (hs:xW s) (ha:F_9 (v,w,s,())=some (true,())) (hm:qP s) (hw:1≤w) (hp:bG v w s) :
  F_2 (v,w,s,())=some (aB v w s)∧kL (n+1) (aB v w s).1∧xW (aB v w s).2.1∧List.length (aB v w s).2.1.2.1=List.length s.2.1∧(aB v w s).2.1.1=s.1∧(aB v w s).2.1.2.2=s.2.2:=by
 have hl:=hm.2.1
 have hs2:=hs.1
 have hend:∀(v':cU) (s':P_2) (k:Int),kL (n+1) v'→xW s'→eP v' s' k=some (v',s',k,()):=fun v' s' k h1 h2=>by
  unfold eP
  refine (aY (qv v' (h1.cl (by omega)))).trans ?_
  exact aY (hU s' h2.cl)
 have hstep:∀{r:cU×P_2×Int×Unit},cG v.2.1 (v,w,s,())=some r→kL (n+1) r.1→xW r.2.1→F_2 (v,w,s,())=some r:=fun {r} h1 h2 h3=>by
  unfold F_2
  refine (aY ha).trans ((aZ rfl).trans ((aY h1).trans ?_))
  exact hend _ _ _ h2 h3
 have hset:∀(x:Int),xW (s.1,List.set s.2.1 v.2.2.1.toNat x,s.2.2):=fun x=>⟨by show List.length (List.set s.2.1 v.2.2.1.toNat x)≤10;rw [List.length_set];exact hs.1,hs.2⟩
 have hin:v.2.1=0∨v.2.1=1∨v.2.1=2∨v.2.1=3∨v.2.1=5→0≤v.2.2.1∧v.2.2.1<(List.length s.2.1:Int):=by
  intro hc
  rcases hp with ⟨h,h1⟩ | ⟨h,h1⟩ | ⟨h,h1⟩ | ⟨h,h1⟩ | ⟨h,h1⟩ | ⟨h,h1,_⟩
  ·exact h1
  ·exact h1
  ·exact h1
  ·exact dA.1 (Bool.and_eq_true_iff.1 h1).1
  ·exfalso;omega
  ·exact h1
 have hon:v.2.1=0∨v.2.1=1∨v.2.1=2∨v.2.1=3∨v.2.1=5→dx (v.2.2.1+(1:Int))=true∧dx (v.2.1+(1:Int))=true:=fun hc=>by
  have:=hin hc
  exact ⟨bS (by omega) (by omega),bS (by omega) (by omega)⟩
 rcases hp with ⟨h,h1,h2⟩ | ⟨h,h1,h2⟩ | ⟨h,h1,h2⟩ | ⟨h,h1⟩ | ⟨h,h1⟩ | ⟨h,⟨h1,h2⟩,h3⟩
 ·have e:aB v w s=(bif bT s.2.1 v.2.2.1 then cm (kM v ((v.2.2.2.2.1:List Int)++[(gl s v.2.2.1).2.1])) s.1.1 else dn v,s,0,()):=by unfold aB;rw [h];rfl
  have hg:kL (n+1) (aB v w s).1:=by
   rw [e]
   show kL (n+1) (bif bT s.2.1 v.2.2.1 then _ else _)
   cases bT s.2.1 v.2.2.1 with
   | false=>exact hv.fail.mono (Nat.le_succ _)
   | true=>
    refine kL.on (v:=kM v ((v.2.2.2.2.1:List Int)++[(gl s v.2.2.1).2.1])) ⟨?_,hv.2.1.mono (Nat.le_succ _),hv.2.2⟩ s.1.1
    show List.length ((v.2.2.2.2.1:List Int)++[_])≤n+1
    rw [List.length_append]
    exact Nat.succ_le_succ hv.1
  refine ⟨hstep ?_ hg (by rw [e];exact hs),hg,by rw [e];exact hs,by rw [e],by rw [e],by rw [e]⟩
  rw [e,h]
  refine (NZ _).trans ?_
  exact Hs v w s (Nat.le_of_lt hn) hv hs hl h h1 h2
 ·have e:aB v w s=(cm (mP v ((v.2.2.2.2.2.1:List cQ)++[gl s v.2.2.1])) s.1.1,s,0,()):=by unfold aB;rw [h];rfl
  have hg:kL (n+1) (aB v w s).1:=by
   rw [e]
   refine kL.on (v:=mP v ((v.2.2.2.2.2.1:List cQ)++[gl s v.2.2.1])) ⟨Nat.le_trans hv.1 (Nat.le_succ _),⟨?_,fun c hc=>?_⟩,hv.2.2⟩ s.1.1
   ·show List.length ((v.2.2.2.2.2.1:List cQ)++[_])≤n+1
    rw [List.length_append]
    exact Nat.succ_le_succ hv.2.1.1
   ·have hc:c∈(v.2.2.2.2.2.1:List cQ)++[gl s v.2.2.1]:=hc
    rw [List.mem_append,List.mem_singleton] at hc
    rcases hc with hc | rfl
    ·exact hv.2.1.2 c hc
    ·exact Ke hs h1 (by rw [hl];exact h2)
  refine ⟨hstep ?_ hg (by rw [e];exact hs),hg,by rw [e];exact hs,by rw [e],by rw [e],by rw [e]⟩
  rw [e,h]
  refine (Og _).trans ?_
  exact copy_eq v w s (Nat.le_of_lt hn) hv hs hl h h1 h2
 ·have e:aB v w s=(kE v s,s,bif v.2.2.1==0 then 1 else 0,()):=by unfold aB;rw [h];rfl
  have hg:kL (n+1) (aB v w s).1:=by
   rw [e]
   show kL (n+1) (kE v s)
   unfold kE
   cases nJ v s with
   | false=>exact hv.fail.mono (Nat.le_succ _)
   | true=>
    have hu:=hv.on s.1.1
    show kL (n+1) (fT (cm v s.1.1))
    generalize cm v s.1.1=u at hu
    unfold fT
    cases (u.2.1 != (2:Int)) with
    | false=>exact hu.mono (Nat.le_succ _)
    | true=>exact ⟨Nat.le_trans hu.1 (Nat.le_succ _),hu.2.1.mono (Nat.le_succ _),Nat.le_trans (vP hu.2.1 _) (by omega),hu.2.2.2⟩
  refine ⟨hstep ?_ hg (by rw [e];exact hs),hg,by rw [e];exact hs,by rw [e],by rw [e],by rw [e]⟩
  rw [e,h]
  refine (PS _).trans ?_
  exact JC v w s (Nat.le_of_lt hn) hv hs hl h h1 h2
 ·have e:aB v w s=(cm v s.1.1,(s.1,List.set s.2.1 v.2.2.1.toNat w,s.2.2),0,()):=by unfold aB;rw [h];rfl
  have hg:kL (n+1) (aB v w s).1:=by rw [e];exact (hv.on s.1.1).mono (Nat.le_succ _)
  refine ⟨hstep ?_ hg (by rw [e];exact hset w),hg,by rw [e];exact hset w,by rw [e];exact List.length_set,by rw [e],by rw [e]⟩
  rw [e,h]
  refine (Pm _).trans ?_
  refine (XB (v,w,s,())).trans ?_
  refine (aY (GQ _ _ _ h1 hw (Nat.le_trans hs.1 (by decide)))).trans ?_
  obtain ⟨i1,i2⟩:=hon (by omega)
  exact aY (yE v (s.1,List.set s.2.1 v.2.2.1.toNat w,s.2.2) i1 i2)
 ·have e:aB v w s=((v.1,5,0,v.2.2.2.1,v.2.2.2.2.1,v.2.2.2.2.2.1,nD s.2.2.2.1 v.1,()),s,2,()):=by unfold aB;rw [h];rfl
  have hg:kL (n+1) (aB v w s).1:=by
   rw [e]
   exact ⟨Nat.le_trans hv.1 (Nat.le_succ _),hv.2.1.mono (Nat.le_succ _),Nat.le_trans (vP hs.2 _) (by decide),hv.2.2.2⟩
  refine ⟨hstep ?_ hg (by rw [e];exact hs),hg,by rw [e];exact hs,by rw [e],by rw [e],by rw [e]⟩
  rw [e,h]
  refine (MW _).trans ?_
  refine (X6 (v,w,s,())).trans ?_
  exact aY (zY v _ hs.2 (by decide) hv.2.2.2)
 ·have e:aB v w s=(cm v s.1.1,(s.1,List.set s.2.1 v.2.2.1.toNat (0:Int),s.2.2),0,()):=by unfold aB;rw [h];rfl
  have hg:kL (n+1) (aB v w s).1:=by rw [e];exact (hv.on s.1.1).mono (Nat.le_succ _)
  refine ⟨hstep ?_ hg (by rw [e];exact hset 0),hg,by rw [e];exact hset 0,by rw [e];exact List.length_set,by rw [e],by rw [e]⟩
  rw [e,h]
  refine (N5 _).trans ?_
  refine (Xa (v,w,s,())).trans ?_
  refine (aY (I3 _ _ _ h1 h2 h3 (Nat.le_trans hs.1 (by decide)))).trans ?_
  obtain ⟨i1,i2⟩:=hon (by omega)
  exact aY (yE v (s.1,List.set s.2.1 v.2.2.1.toNat (0:Int),s.2.2) i1 i2)
end Go.Proofs.YtdbjakibneeeiaaGreatDoor.Ex
namespace Go.Proofs.YtdbjakibneeeiaaGreatDoor.Ex
open Go.RowKit Sx
def vZ {S A R:Type} {step:S→Option (S ⊕ R)} (mk:Int→List A→S) (L:List A) (d:A) (out:List A→R) (hL:L.length≤9223372036854775807)
  (h:∀(k:Nat) (acc:List A),k<L.length→acc.length=k→step (mk (k:Int) acc)=some (.inl (mk ((k:Int)+1) (acc++[L.getD (Int.toNat (k:Int)) d])))) (he:∀acc:List A,step (mk (L.length:Int) acc)=some (.inr (out acc))) {s:S} (hs:s=mk 0 []):b6 step bn s=some (out L):=by
 refine aa.of_eq (Q:=fun _=>True) (aa.idx (Q:=fun r=>r=out L) (fun k=>mk (k:Int) (L.take k)) (fun _=>True) L.length hL trivial (fun k hk _=>?_) (fun _=>?_) hs)
 ·rw [h k (L.take k) hk (by rw [List.length_take];omega)]
  refine ⟨_,rfl,?_,trivial⟩
  rw [List.take_succ_eq_append_getElem hk,Int.toNat_natCast,bE hk];rfl
 ·rw [List.take_length,he]
  exact ⟨_,rfl,rfl⟩
def JH {n k c:Nat} (hk:k<n) (hn:n≤1000000) (hc:c≤1000):(Nat.ble (k+1) 9223372036854775807&&Nat.ble ((k+1)*c) 140737488355328)=true:=by
 rw [Bool.and_eq_true,Nat.ble_eq,Nat.ble_eq]
 have:(k+1)*c≤1000000*1000:=Nat.mul_le_mul (by omega) hc
 omega
def zH (L:List cQ) (hL:L.length≤1000000):Mz (L,())=some (L,()):=by
 refine (WT (L,())).trans ?_
 refine (aY (vZ (fun k acc=>((L,k,()),(),acc,())) L fJ (fun acc=>.inl ((),(),acc,())) (by omega) (fun k acc hk ha=>?_) (fun acc=>?_) rfl)).trans rfl
 ·refine (aZ (cr hk)).trans ((aT (b9 hk)).trans ((aT (bf hk)).trans ((aT ?_).trans (aT (aU hk (by omega))))))
  show (Nat.ble (acc.length+1) _&&Nat.ble ((acc.length+1)*32) _)=true
  rw [ha];exact JH hk hL (by decide)
 ·exact aN cq
def zi (s:P_2) (h:List.length s.2.2.2.1≤1000000):F_4 (s,())=some (s,()):=
 (XY (s,())).trans (aY (zH _ h))
def lZ {S R:Type} {step:S→Option (S ⊕ R)} (mk:Int→S) (n:Nat) (out:R) (hn:n≤9223372036854775807) (h:∀k:Nat,k<n→step (mk (k:Int))=some (.inl (mk ((k:Int)+1)))) (he:step (mk (n:Int))=some (.inr out)) {s:S} (hs:s=mk 0):b6 step bn s=some out:=by
 refine aa.of_eq (Q:=fun _=>True) (aa.idx (Q:=fun r=>r=out) (fun k=>mk (k:Int)) (fun _=>True) n hn trivial (fun k hk _=>?_) (fun _=>?_) hs)
 ·rw [h k hk];exact ⟨_,rfl,rfl,trivial⟩
 ·rw [he];exact ⟨_,rfl,rfl⟩
def uk (x:Int):(x != x)=false:=by simp
def rH (x:Int):(x==x)=true:=by simp
def yA (x:ByteArray):Eg x x=true:=decide_eq_true rfl
def zF (L:List xu) (hL:L.length≤1000000):MA (L,L,())=some (true,()):=by
 refine (Yp (L,L,())).trans ?_
 refine (aN (uk _)).trans ?_
 refine (aY (lZ (fun k=>((L,L,k,()),(),())) L.length (.inr (.inl ((),(),()))) (by omega) (fun k hk=>?_) ?_ rfl)).trans rfl
 ·refine (aZ (cr hk)).trans ((aT (b9 hk)).trans ((aT (bf hk)).trans ((aT (b9 hk)).trans ((aT (bf hk)).trans ((aN ?_).trans (aT (aU hk (by omega))))))))
  generalize (List.getD _ _ _:xu)=t
  simp only [rH,yA,Bool.and_true,Bool.not_true]
 ·exact aN cq
def K8 (r:T8) (h:List.length r.2.2.1≤1000000):DV (r,r,())=some (true,()):=by
 refine (Yb (r,r,())).trans ?_
 refine (aZ (by simp)).trans ((aZ ?_).trans ((aZ (by simp)).trans (aY (zF _ h))))
 simp only [rH,yA,Bool.and_true,beq_self_eq_true]
end Go.Proofs.YtdbjakibneeeiaaGreatDoor.Ex
namespace Go.Proofs.YtdbjakibneeeiaaGreatDoor.Ex
open Go.RowKit Sx
def de (v:cU) (w:Int) (s:P_2):Bool:=((F_9 (v,w,s,())).getD (false,())).1
def kz (v:cU) (w:Int) (s:P_2) (h:uP s):F_9 (v,w,s,())=some (de v w s,())∧(de v w s=true→qP s∧1≤w∧bG v w s):=by
 obtain ⟨m,em,hm,⟨⟨b,u⟩,e,hb⟩⟩:=ue v w s h
 have e2:de v w s=b:=by unfold de;rw [e];rfl
 rw [e2]
 exact ⟨e,fun h=>by
  obtain ⟨h1,h2,h3⟩:=hb.1 h
  exact ⟨hm h2,h1,h3⟩⟩
def iY (v:cU) (w:Int) (s:P_2):cU×P_2×Int×Unit:=bif de v w s then aB v w s else (v,s,0,())
def BP {n:Nat} (v:cU) (w:Int) (s:P_2) (hn:n<1000) (hv:kL n v) (hs:xW s) :
  F_2 (v,w,s,())=some (iY v w s)∧kL (n+1) (iY v w s).1∧xW (iY v w s).2.1∧List.length (iY v w s).2.1.2.1=List.length s.2.1∧(iY v w s).2.1.1=s.1∧(iY v w s).2.1.2.2=s.2.2:=by
 obtain ⟨e,h⟩:=kz v w s hs.cl
 unfold iY
 cases hb:de v w s with
 | true=>
  obtain ⟨h1,h2,h3⟩:=h hb
  exact step_eq v w s hn hv hs (e.trans (by rw [hb])) h1 h2 h3
 | false=>
  refine ⟨?_,hv.mono (Nat.le_succ _),hs,rfl,rfl,rfl⟩
  unfold F_2
  rw [hb] at e
  refine (aY e).trans ((aN rfl).trans ?_)
  unfold eP
  refine (aY (qv v (hv.cl (by omega)))).trans ?_
  exact aY (hU s hs.cl)
def gF:Nat→cU→Int→P_2→cU×P_2
 | 0,v,_,s=>(v,s)
 | n+1,v,w,s=>bif de v w s then gF n (aB v w s).1 w (aB v w s).2.1 else (v,s)
def vh {v:cU} {w:Int} {s:P_2} (h:de v w s=false):∀n,gF n v w s=(v,s)
 | 0=>rfl
 | n+1=>by
  show (bif de v w s then _ else (v,s))=(v,s)
  rw [h];rfl
def a1i (w:Int) (b:Nat):∀(a:Nat) (v:cU) (s:P_2),gF (a+b) v w s=gF b (gF a v w s).1 w (gF a v w s).2
 | 0,v,s=>by rw [Nat.zero_add];rfl
 | a+1,v,s=>by
  rw [Nat.succ_add]
  show (bif de v w s then gF (a+b) (aB v w s).1 w (aB v w s).2.1 else (v,s))=gF b (bif de v w s then gF a (aB v w s).1 w (aB v w s).2.1 else (v,s)).1 w (bif de v w s then gF a (aB v w s).1 w (aB v w s).2.1 else (v,s)).2
  cases h:de v w s with
  | true=>exact a1i w b a _ _
  | false=>exact (vh h b).symm
structure A5 (w:Int) (m:Nat) (I:Nat→cU→P_2→Prop):Prop where
 good:∀{k v s},I k v s→kL 900 v∧xW s
 step:∀{k v s},k<m→I k v s→de v w s=true→qP s→1≤w→bG v w s→I (k+1) (aB v w s).1 (aB v w s).2.1
def cZ (most:Int):Nat:=(if (10000:Int)<most then (10000:Int) else most).toNat
def zS {w:Int} {m:Nat} {I:Nat→cU→P_2→Prop} (h:A5 w m I) (v:cU) (s:P_2) (most:Int) (hm:cZ most≤m) (h0:I 0 v s) :
  rK (v,w,s,most,())=some ((gF (cZ most) v w s).1,(gF (cZ most) v w s).2,()):=by
 obtain ⟨hv,hs⟩:=h.good h0
 refine aa.of_eq (Q:=fun _=>True) (aa.of (Xt (v,w,s,most,())) ?_)
 refine aa.gj (qv v (hv.cl (by decide))) ?_
 refine aa.gj (hU s hs.cl) ?_
 have hcap:(if (10000:Int)<most then (10000:Int) else most)≤10000:=by split <;> omega
 have hN:cZ most≤10000:=by unfold cZ;omega
 generalize hc:(if (10000:Int)<most then (10000:Int) else most)=c at hcap
 have hNc:cZ most=c.toNat:=by unfold cZ;rw [hc]
 generalize cZ most=N at hm hN hNc
 refine aa.xb (aa.loop (Q:=fun r:(Unit×(((cU×Unit)×((P_2×Unit)×((cU×Unit)×((P_2×Unit)×Unit))))×Unit)) ⊕ Empty=>match r with | .inl y=>(y.2.1.1.1,y.2.1.2.1.1)=gF N v w s | .inr y=>False)
  (fun st=>∃(k:Nat) (v':cU) (s':P_2),st.1.1=w∧st.1.2.1=c∧st.1.2.2.1=(k:Int)∧st.2.1.1.1=v'∧st.2.1.2.1.1=s'∧k≤N∧I k v' s'∧gF (N - k) v' w s'=gF N v w s)
  (fun st=>N - st.1.2.2.1.toNat) (fun st hst=>?_) ⟨0,v,s,rfl,?_,rfl,rfl,rfl,Nat.zero_le _,h0,rfl⟩ ?_) (fun y hy=>?_)
 ·obtain ⟨⟨w',c',k',u1⟩,⟨⟨v',u2⟩,⟨s',u3⟩,X⟩,u4⟩:=st
  obtain ⟨k,v'',s'',e1,e2,e3,e4,e5,hk,hI,hr⟩:=hst
  have e1:w'=w:=e1
  have e2:c'=c:=e2
  have e3:k'=(k:Int):=e3
  have e4:v'=v'':=e4
  have e5:s'=s'':=e5
  subst e1 e2 e3 e4 e5
  obtain ⟨gv,gs⟩:=h.good hI
  refine aa.br (fun hl=>?_) (fun hl=>?_)
  ·have hl:(k:Int)<c':=of_decide_eq_true hl
   have hkN:k<N:=by omega
   obtain ⟨ea,hab⟩:=kz v' w' s' gs.cl
   obtain ⟨en,n1,n2,_⟩:=BP v' w' s' (n:=900) (by decide) gv gs
   refine aa.gj ea ?_
   refine aa.br (fun hb=>⟨_,rfl,?_⟩) (fun hb=>?_)
   ·have hb:de v' w' s'=false:=by
     have hb:(!de v' w' s')=true:=hb
     cases hx:de v' w' s' with
     | false=>rfl
     | true=>rw [hx] at hb;cases hb
    show (v',s')=_
    rw [← hr];exact (vh hb _).symm
   ·have hb:de v' w' s'=true:=zT hb
    obtain ⟨h1,h2,h3⟩:=hab hb
    have e9:iY v' w' s'=aB v' w' s':=by unfold iY;rw [hb];rfl
    rw [e9] at en
    refine aa.gj en (aa.gd (bS (by show _≤(k:Int)+1;omega) (by show (k:Int)+1≤_;omega)) ⟨_,rfl,⟨k+1,_,_,rfl,rfl,by show (k:Int)+1=((k+1:Nat):Int);omega,rfl,rfl,hkN,h.step (by omega) hI hb h1 h2 h3,?_⟩,?_⟩)
    ·rw [← hr]
     have e10:N - k=(N - (k+1))+1:=by omega
     rw [e10]
     show _=(bif de v' w' s' then gF (N - (k+1)) (aB v' w' s').1 w' (aB v' w' s').2.1 else (v',s'))
     rw [hb];rfl
    ·show N - ((k:Int)+1).toNat<N - (k:Int).toNat
     omega
  ·have hl:¬ (k:Int)<c':=of_decide_eq_false hl
   have e9:N - k=0:=by omega
   rw [e9] at hr
   exact ⟨_,rfl,hr⟩
 ·rfl
 ·show N - (0:Int).toNat<bn
  exact lg (by omega)
 ·match y,hy with
  | .inl y,hy=>
   have e1:y.2.1.1.1=(gF N v w s).1:=congrArg Prod.fst hy
   have e2:y.2.1.2.1.1=(gF N v w s).2:=congrArg Prod.snd hy
   refine ⟨_,rfl,?_⟩
   show (y.2.1.1.1,y.2.1.2.1)=_
   rw [← e1,← e2]
end Go.Proofs.YtdbjakibneeeiaaGreatDoor.Ex
namespace Go.Proofs.YtdbjakibneeeiaaGreatDoor.Ex
open Go.RowKit Sx
def JV {x:Int} (h0 : -9223372036854775808≤x+1) (h1:x+1≤9223372036854775807):IntKind.wrap IntKind.i64 (x+(1:Int))=x+1:=by rw [IntKind.wrap_i64];omega
def tf (v:cU) (h0:0≤v.2.2.2.1) (h1:v.2.2.2.1≤2):(2≤v.2.2.2.1+1∧dn v=(v.1,3,0,v.2.2.2.1+1,[],[],v.2.2.2.2.2.2))∨(v.2.2.2.1+1<2∧dn v=(v.1,0,0,v.2.2.2.1+1,[],[],v.2.2.2.2.2.2)):=by
 have e:IntKind.wrap IntKind.i64 (v.2.2.2.1+(1:Int))=v.2.2.2.1+1:=JV (by omega) (by omega)
 unfold dn
 rw [e]
 by_cases h:v.2.2.2.1+1≥2
 ·rw [decide_eq_true h];exact .inl ⟨h,rfl⟩
 ·rw [decide_eq_false h];exact .inr ⟨by omega,rfl⟩
end Go.Proofs.YtdbjakibneeeiaaGreatDoor.Ex
namespace Go.Proofs.YtdbjakibneeeiaaGreatDoor.Ex
open Go.RowKit Sx
def oz {L:List Int} {k:Nat} (h:k<L.length) (x:Int) (i:Nat):(L.set k x).getD i 0=if i=k then x else L.getD i 0:=by
 simp only [List.getD,List.getElem?_set]
 by_cases e:k=i
 ·subst e;simp [h]
 ·have e2:¬ i=k:=fun c=>e c.symm
  simp [e,e2]
def EW {L M:List Int} (h:L.length=M.length) (h2:∀i,i<M.length→L.getD i 0=M.getD i 0):L=M:=by
 refine List.ext_getElem h fun i h3 h4=>?_
 have:=h2 i h4
 rwa [bE h3,bE h4] at this
end Go.Proofs.YtdbjakibneeeiaaGreatDoor.Ex
namespace Go.Proofs.YtdbjakibneeeiaaGreatDoor.Ex
open Go.RowKit Sx
def wE (L:List cQ) (h:FA (.row z4) L):Az L∧∀c:cQ,c∈L→∀a:dc,a∈c.1→dx a.1=true:=by
 have hz4:∀c:cQ,c∈L→FA z4 c:=h.2
 refine ⟨⟨h.1,fun c hc=>?_⟩,fun c hc a ha=>?_⟩
 ·have h1:Jo [.row z1,.int] c:=hz4 c hc
  refine ⟨h1.1.1,fun a ha=>?_⟩
  have h2:Jo [.int,.int,.row z0] a:=h1.1.2 a ha
  exact h2.2.2.1.1
 ·have h1:Jo [.row z1,.int] c:=hz4 c hc
  have h2:Jo [.int,.int,.row z0] a:=h1.1.2 a ha
  have h3:Fits a.1:=h2.1
  exact bS h3.1 (Int.lt_add_one_iff.1 h3.2)
def Ge {L:List cQ} (h:∀c:cQ,c∈L→∀a:dc,a∈c.1→dx a.1=true) {c:cQ} (hc:c∈L) (h2:Iy c):TP c:=⟨h2.1,fun a ha=>⟨h2.2 a ha,h c hc a ha⟩⟩
def M6 (s:P_2) (h:FA (.row z4) s.2.2.2.1) (hs:Q0 s):xW s:=⟨hs.1,hs.2.1,fun c hc=>Ge (wE _ h).2 hc (hs.2.2 c hc)⟩
def Cw:aa (xb (F_1 ()) fun y:Bool×Unit=>some y) (· = (true,())):=⟨_,aY Kq,rfl⟩
end Go.Proofs.YtdbjakibneeeiaaGreatDoor.Ex
namespace Go.Proofs.YtdbjakibneeeiaaGreatDoor.Ex
open Go.RowKit Sx
def M8 (g:Int):F_3 (g,())=some ((g,(0:Int),(0:Int),(0:Int),[],[],((0:Int),((0:Int),(0:Int),(0:Int),(0:Int),(0:Int),ByteArray.empty,()),[],(0:Int),()),()),()):=WU (g,())
def EM (g:Int):cU:=(g,0,0,0,[],[],(0,(0,0,0,0,0,ByteArray.empty,()),[],0,()),())
def a0O (g:Int) (h:Fits g):kL 0 (EM g):=⟨Nat.le_refl _,⟨Nat.le_refl _,fun c hc=>(by cases hc)⟩,Nat.zero_le _,bS h.1 (Int.lt_add_one_iff.1 h.2)⟩
end Go.Proofs.YtdbjakibneeeiaaGreatDoor.Ex
namespace Go.Proofs.YtdbjakibneeeiaaGreatDoor.Ex
open Go.RowKit Sx
def LX (L:List Int) (i:Int):F_12 (L,i,())=some (bT L i,()):=by
 refine (Uh (L,i,())).trans ?_
 unfold bT oS
 by_cases h1:0≤i
 ·refine (aZ (tF.2 h1)).trans ?_
  by_cases h2:i<(L.length:Int)
  ·refine (aZ (by show (decide (i<(L.length:Int))==true)=true;rw [decide_eq_true h2];rfl)).trans ?_
   refine (aT (bC.2 ⟨h1,h2⟩)).trans ((aT (decide_eq_true (by show i.toNat<L.length;omega))).trans ?_)
   rw [decide_eq_true h1,decide_eq_true h2];rfl
  ·refine (aN (by show (decide (i<(L.length:Int))==true)=false;rw [decide_eq_false h2];rfl)).trans ?_
   rw [decide_eq_false h2,Bool.and_false];rfl
 ·refine (aN (by show (decide (i≥0)==true)=false;rw [decide_eq_false h1];rfl)).trans ?_
  rw [decide_eq_false h1];rfl
def B8 {n m c:Nat} (h:n+m≤1000001) (hc:c≤1000):(Nat.ble (n+m) 9223372036854775807&&Nat.ble ((n+m)*c) 140737488355328)=true:=by
 rw [Bool.and_eq_true,Nat.ble_eq,Nat.ble_eq]
 have:(n+m)*c≤1000001*1000:=Nat.mul_le_mul h hc
 omega
def LR (L:List Int) (w:Int) (hL:L.length≤1000000):aa (F_13 (L,w,())) fun r:List Int×Unit=>List.length r.1≤L.length∧(List.length r.1=L.length↔∀k,k<L.length→aM L (k:Int) w=true):=by
 refine aa.of (UT (L,w,())) ?_
 refine aa.xb (aa.cnt (Q:=fun r:(Unit×(Unit×((List Int)×Unit))) ⊕ Empty=>match r with | .inl y=>List.length y.2.2.1≤L.length∧(List.length y.2.2.1=L.length↔∀k,k<L.length→aM L (k:Int) w=true) | .inr _=>False)
  (fun k st=>∃A:List Int,st=((L,w,(k:Int),()),(),A,())∧A.length≤k∧(A.length=k↔∀j,j<k→aM L (j:Int) w=true)) L.length (by omega) (fun k st hk hI=>?_) (fun st hI=>?_) ⟨[],rfl,Nat.le_refl _,⟨fun _ j hj=>absurd hj (Nat.not_lt_zero _),fun _=>rfl⟩⟩) (fun y hy=>?_)
 ·obtain ⟨A,rfl,hA,hi⟩:=hI
  have ek:L.getD (Int.toNat (k:Int)) 0=L.getD k 0:=by rw [Int.toNat_natCast]
  have hh:aM L (k:Int) w=(decide (w≥1)&&(L.getD k 0==w)):=by unfold aM;rw [Int.toNat_natCast]
  have step:∀j,j<k+1→j<k∨j=k:=fun j h=>by omega
  refine aa.br (fun _=>?_) (fun h=>absurd (cr hk) (by rw [h];simp))
  refine aa.br (fun hw=>?_) (fun hw=>?_)
  ·have hw1:decide (w≥1)=true:=eq_of_beq hw
   clear hw
   refine aa.gd (b9 hk) (aa.gd (bf hk) ?_)
   refine aa.br (fun he=>?_) (fun he=>?_)
   ·have he:(L.getD k 0==w)=true:=by rw [← ek];exact he
    refine aa.gd (B8 (by show A.length+1≤_;omega) (by decide)) (aa.gd (aU hk (by omega)) ⟨_,rfl,A++[(k:Int)],rfl,?_,?_⟩)
    ·rw [List.length_append];simp only [List.length_singleton];omega
    ·rw [List.length_append]
     simp only [List.length_singleton]
     constructor
     ·intro h j hj
      rcases step j hj with h2 | h2
      ·exact hi.1 (by omega) j h2
      ·rw [h2,hh,hw1,he];rfl
     ·intro h
      have:=hi.2 fun j hj=>h j (by omega)
      omega
   ·have he:(L.getD k 0==w)=false:=by rw [← ek];exact he
    refine aa.gd (aU hk (by omega)) ⟨_,rfl,A,rfl,by omega,⟨fun h=>by omega,fun h=>?_⟩⟩
    have:=h k (Nat.lt_succ_self k)
    rw [hh,he,Bool.and_false] at this;cases this
  ·have hw:decide (w≥1)=false:=by
    cases hx:decide (w≥1) with
    | false=>rfl
    | true=>have hw:(decide (w≥1)==true)=false:=hw;rw [hx] at hw;cases hw
   refine aa.gd (aU hk (by omega)) ⟨_,rfl,A,rfl,by omega,⟨fun h=>by omega,fun h=>?_⟩⟩
   have:=h k (Nat.lt_succ_self k)
   rw [hh,hw,Bool.false_and] at this;cases this
 ·obtain ⟨A,rfl,hA,hi⟩:=hI
  exact aa.br (fun h=>absurd cq (by rw [h];simp)) (fun _=>⟨_,rfl,hA,hi⟩)
 ·match y,hy with
  | .inl y,hy=>exact ⟨_,rfl,hy⟩
def KT (v:cU) (w:Int) (s:P_2) (h:uP s):Says (F_10 (v,w,s,())) (1≤w∧IM s∧bG v w s):=by
 refine aa.of (TY (v,w,s,())) ?_
 refine Says.iG iI fun hw=>?_
 refine Says.xb (OD s h) fun b hb=>?_
 refine Says.GC (OR hb) fun hS=>?_
 have no:∀{P:Prop},¬ P→Says (some (false,())) P:=fun h=>Says.no h
 have lo:∀{ph:Int},ph=0∨ph=1∨ph=2→v.2.1=ph→(bG v w s↔(0≤v.2.2.1∧v.2.2.1<(List.length s.2.1:Int))):=by
  intro ph hph hv
  unfold bG
  constructor
  ·rintro (⟨_,h⟩ | ⟨_,h⟩ | ⟨_,h⟩ | ⟨h,_⟩ | ⟨h,_⟩ | ⟨h,_⟩)
   ·exact h
   ·exact h
   ·exact h
   all_goals (exfalso;omega)
  ·intro h
   rcases hph with rfl | rfl | rfl
   ·exact .inl ⟨hv,h⟩
   ·exact .inr (.inl ⟨hv,h⟩)
   ·exact .inr (.inr (.inl ⟨hv,h⟩))
 have p3:v.2.1=3→(bG v w s↔bT s.2.1 v.2.2.1=true):=by
  intro p
  unfold bG
  constructor
  ·rintro (⟨h,_⟩ | ⟨h,_⟩ | ⟨h,_⟩ | ⟨_,h⟩ | ⟨h,_⟩ | ⟨h,_⟩)
   any_goals (exfalso;omega)
   exact h
  ·intro h;exact .inr (.inr (.inr (.inl ⟨p,h⟩)))
 have p4:v.2.1=4→(bG v w s↔∀k,k<List.length s.2.1→aM s.2.1 (k:Int) w=true):=by
  intro p
  unfold bG
  constructor
  ·rintro (⟨h,_⟩ | ⟨h,_⟩ | ⟨h,_⟩ | ⟨h,_⟩ | ⟨_,h⟩ | ⟨h,_⟩)
   any_goals (exfalso;omega)
   exact h
  ·intro h;exact .inr (.inr (.inr (.inr (.inl ⟨p,h⟩))))
 have p5:v.2.1=5→(bG v w s↔((0≤v.2.2.1∧v.2.2.1<(List.length s.2.1:Int))∧aM s.2.1 v.2.2.1 w=true)):=by
  intro p
  unfold bG
  constructor
  ·rintro (⟨h,_⟩ | ⟨h,_⟩ | ⟨h,_⟩ | ⟨h,_⟩ | ⟨h,_⟩ | ⟨_,h,h2⟩)
   any_goals (exfalso;omega)
   exact ⟨h,h2⟩
  ·intro h;exact .inr (.inr (.inr (.inr (.inr ⟨p,h.1,h.2⟩))))
 have pn:v.2.1≠0→v.2.1≠1→v.2.1≠2→v.2.1≠3→v.2.1≠4→v.2.1≠5→¬ bG v w s:=by
  intro a b c d e f
  unfold bG
  rintro (⟨h,_⟩ | ⟨h,_⟩ | ⟨h,_⟩ | ⟨h,_⟩ | ⟨h,_⟩ | ⟨h,_⟩) <;> (exfalso;omega)
 have held:v.2.1=4→Says (xb (F_13 (s.2.1,w,())) fun y2:List Int×Unit=>some (((((List.length y2.1):Nat):Int)==(((List.length s.2.1):Nat):Int)),())) (bG v w s):=fun p=>by
  refine aa.xb (LR s.2.1 w h.1) fun y hy=>⟨_,rfl,?_⟩
  obtain ⟨l,u⟩:=y
  have hy2:l.length=List.length s.2.1↔∀k,k<List.length s.2.1→aM s.2.1 (k:Int) w=true:=hy.2
  rw [p4 p,← hy2]
  show (((l.length:Nat):Int)==((List.length s.2.1:Nat):Int))=true↔_
  rw [beq_iff_eq];omega
 have free:v.2.1=3→Says (xb (F_12 (s.2.1,v.2.2.1,())) fun y:Bool×Unit=>some y) (bG v w s):=fun p=>by
  refine aa.gj (LX _ _) ⟨_,rfl,?_⟩
  rw [p3 p]
 refine aa.br (fun ha=>?_) (fun ha=>?_)
 ·have ha:0≤v.2.2.1:=tF.1 ha
  have lo':∀{ph:Int},ph=0∨ph=1∨ph=2→v.2.1=ph→Says (some (decide (v.2.2.1<((List.length s.2.1:Nat):Int)),())) (bG v w s):=fun h1 h2=>Says.of (by rw [lo h1 h2,decide_eq_true_iff];exact ⟨fun k=>⟨ha,k⟩,And.right⟩)
  refine aa.br (fun p=>lo' (ph:=0) (by simp) (eq_of_beq (α:=Int) p)) (fun q0=>?_)
  refine aa.br (fun p=>lo' (ph:=1) (by simp) (eq_of_beq (α:=Int) p)) (fun q1=>?_)
  refine aa.br (fun p=>lo' (ph:=2) (by simp) (eq_of_beq (α:=Int) p)) (fun q2=>?_)
  refine aa.br (fun p=>free (eq_of_beq (α:=Int) p)) (fun q3=>?_)
  refine aa.br (fun p=>held (eq_of_beq (α:=Int) p)) (fun q4=>?_)
  refine aa.br (fun p=>?_) (fun q5=>no (pn (ne_of_beq_false (α:=Int) q0) (ne_of_beq_false (α:=Int) q1) (ne_of_beq_false (α:=Int) q2) (ne_of_beq_false (α:=Int) q3) (ne_of_beq_false (α:=Int) q4) (ne_of_beq_false (α:=Int) q5)))
  have p:v.2.1=5:=eq_of_beq (α:=Int) p
  refine aa.br (fun hl=>?_) (fun hl=>no fun k=>?_)
  ·have hl:v.2.2.1<(List.length s.2.1:Int):=of_decide_eq_true (eq_of_beq hl)
   refine aa.gd (bC.2 ⟨ha,hl⟩) (aa.gd (decide_eq_true (by show v.2.2.1.toNat<List.length s.2.1;omega)) (Says.of ?_))
   rw [p5 p]
   unfold aM
   rw [decide_eq_true (show w≥1 by exact hw),Bool.true_and]
   exact ⟨fun k=>⟨⟨ha,hl⟩,k⟩,And.right⟩
  ·have hl:(decide (v.2.2.1<(List.length s.2.1:Int))==true)=false:=hl
   rw [decide_eq_true ((p5 p).1 k).1.2] at hl;cases hl
 ·have ha:¬ 0≤v.2.2.1:=fun c=>by
   have ha:(decide (v.2.2.1≥0)==true)=false:=ha
   rw [decide_eq_true c] at ha;cases ha
  refine aa.br (fun p=>no fun k=>ha ((lo (ph:=0) (by simp) (eq_of_beq (α:=Int) p)).1 k).1) (fun q0=>?_)
  refine aa.br (fun p=>no fun k=>ha ((lo (ph:=1) (by simp) (eq_of_beq (α:=Int) p)).1 k).1) (fun q1=>?_)
  refine aa.br (fun p=>no fun k=>ha ((lo (ph:=2) (by simp) (eq_of_beq (α:=Int) p)).1 k).1) (fun q2=>?_)
  refine aa.br (fun p=>free (eq_of_beq (α:=Int) p)) (fun q3=>?_)
  refine aa.br (fun p=>held (eq_of_beq (α:=Int) p)) (fun q4=>?_)
  exact aa.br (fun p=>no fun k=>ha ((p5 (eq_of_beq (α:=Int) p)).1 k).1.1) (fun q5=>no (pn (ne_of_beq_false (α:=Int) q0) (ne_of_beq_false (α:=Int) q1) (ne_of_beq_false (α:=Int) q2) (ne_of_beq_false (α:=Int) q3) (ne_of_beq_false (α:=Int) q4) (ne_of_beq_false (α:=Int) q5)))
def qw (v:cU) (w:Int) (s:P_2) (h:uP s):F_10 (v,w,s,())=some (de v w s,()):=by
 obtain ⟨⟨b,u⟩,e,hb⟩:=KT v w s h
 obtain ⟨m,em,_,⟨⟨c,u2⟩,e2,hc⟩⟩:=ue v w s h
 obtain ⟨⟨m',u3⟩,em',hm'⟩:=IE s h
 have e3:m=m':=by rw [em] at em';exact congrArg (fun o=>match o with | some x=>x.1 | none=>false) em'
 have hm:m=true↔IM s:=by rw [e3];exact hm'
 have e4:de v w s=c:=by unfold de;rw [e2];rfl
 rw [e4]
 have hbc:b=c:=by
  have hb:b=true↔(1≤w∧IM s∧bG v w s):=hb
  have hc:c=true↔(1≤w∧m=true∧bG v w s):=hc
  rw [hm,← hb] at hc
  cases b <;> cases c <;> simp_all
 rw [← hbc];exact e
end Go.Proofs.YtdbjakibneeeiaaGreatDoor.Ex
namespace Go.Proofs.YtdbjakibneeeiaaGreatDoor.Ex
open Go.RowKit Sx
def Lr (a:dc):Int:=a.1
def gq (a:dc) (l:List dc):List dc:=ax.ins Lr a l
def EB (a:dc):gq a []=[a]:=rfl
def Dq (a y:dc) (l:List dc):gq a (y::l)=if a.1<y.1 then a::y::l else y::gq a l:=rfl
def Ea (a:dc) (l:List dc):(gq a l).length=l.length+1:=(ax.uq Lr a l).length_eq
def drop_cons {A:Type} {L:List A} {d:A} {k:Nat} (h:k<L.length):L.drop k=L.getD k d::L.drop (k+1):=by
 rw [bE h];exact List.drop_eq_getElem_cons h
def put_eq (l:List dc) (a:dc) (hl:l.length≤100000):F_11 (l,a,())=some (gq a l,()):=by
 refine aa.of_eq (Q:=fun _=>True) (aa.of (RA (l,a,())) ?_)
 refine aa.xb (aa.cnt (Q:=fun r:((Bool×Unit)×(((dc×Unit)×Unit)×(List dc×Unit))) ⊕ Empty=>match r with | .inl y=>∃(b:Bool) (out:List dc),y=((b,()),((a,()),()),out,())∧(if b=true then out=gq a l else out=l∧gq a l=l++[a]) | .inr _=>False)
  (fun k st=>∃(b:Bool) (out:List dc),st=((l,b,(k:Int),()),((a,()),()),out,())∧out.length≤k+1∧(if b=true then out++l.drop k=gq a l else out=l.take k∧out++gq a (l.drop k)=gq a l)) l.length (by omega) (fun k st hk hI=>?_) (fun st hI=>?_) ⟨false,[],rfl,Nat.zero_le _,rfl,rfl⟩) (fun y hy=>?_)
 ·obtain ⟨b,out,rfl,ho,hI⟩:=hI
  have ek:l.getD (Int.toNat (k:Int)) cI=l.getD k cI:=by rw [Int.toNat_natCast]
  have hd:l.drop k=l.getD k cI::l.drop (k+1):=drop_cons hk
  have bl:∀(o:List dc),o.length≤k+2→(Nat.ble (o.length+1) 9223372036854775807&&Nat.ble ((o.length+1)*40) 140737488355328)=true:=fun o h=>B8 (by omega) (by decide)
  refine aa.br (fun _=>?_) (fun h=>absurd (cr hk) (by rw [h];simp))
  cases b with
  | false=>
   obtain ⟨h1,h2⟩:out=l.take k∧out++gq a (l.drop k)=gq a l:=by simpa using hI
   rw [hd,Dq] at h2
   have hol:out.length=k:=by rw [h1,List.length_take];omega
   refine aa.br (fun _=>?_) (fun h=>by cases h)
   refine aa.gd (b9 hk) (aa.gd (bf hk) (aa.br (fun hlt=>?_) (fun hlt=>?_)))
   ·have hlt:a.1<(l.getD k cI).1:=by rw [← ek];exact of_decide_eq_true hlt
    rw [if_pos hlt] at h2
    refine aa.gd (bl out (by omega)) (aa.gd (b9 hk) (aa.gd (bf hk) (aa.gd (bl (out++[a]) (by rw [List.length_append];simp only [List.length_singleton];omega)) (aa.gd (aU hk (by omega)) ⟨_,rfl,true,(out++[a])++[l.getD k cI],?_,?_,?_⟩))))
    ·show ((l,true,(k:Int)+1,()),((a,()),()),(out++[a])++[l.getD (Int.toNat (k:Int)) cI],())=_
     rw [ek];rfl
    ·rw [List.length_append,List.length_append];simp only [List.length_singleton];omega
    ·rw [if_pos rfl,← h2]
     simp only [List.append_assoc,List.cons_append,List.nil_append]
   ·have hlt:¬ a.1<(l.getD k cI).1:=by rw [← ek];exact of_decide_eq_false hlt
    rw [if_neg hlt] at h2
    refine aa.gd (b9 hk) (aa.gd (bf hk) (aa.gd (bl out (by omega)) (aa.gd (aU hk (by omega)) ⟨_,rfl,false,out++[l.getD k cI],?_,?_,?_⟩)))
    ·show ((l,false,(k:Int)+1,()),((a,()),()),out++[l.getD (Int.toNat (k:Int)) cI],())=_
     rw [ek];rfl
    ·rw [List.length_append];simp only [List.length_singleton];omega
    ·rw [if_neg (by decide)]
     refine ⟨?_,?_⟩
     ·rw [List.take_succ_eq_append_getElem hk,← h1,bE hk]
     ·rw [← h2];simp only [List.append_assoc,List.cons_append,List.nil_append]
  | true=>
   have h2:out++l.drop k=gq a l:=by simpa using hI
   rw [hd] at h2
   refine aa.br (fun h=>by cases h) (fun _=>?_)
   refine aa.gd (b9 hk) (aa.gd (bf hk) (aa.gd (bl out (by omega)) (aa.gd (aU hk (by omega)) ⟨_,rfl,true,out++[l.getD k cI],?_,?_,?_⟩)))
   ·show ((l,true,(k:Int)+1,()),((a,()),()),out++[l.getD (Int.toNat (k:Int)) cI],())=_
    rw [ek];rfl
   ·rw [List.length_append];simp only [List.length_singleton];omega
   ·rw [if_pos rfl,← h2]
    simp only [List.append_assoc,List.cons_append,List.nil_append]
 ·obtain ⟨b,out,rfl,ho,hI⟩:=hI
  refine aa.br (fun h=>absurd cq (by rw [h];simp)) (fun _=>⟨_,rfl,b,out,rfl,?_⟩)
  cases b with
  | false=>
   obtain ⟨h1,h2⟩:out=l.take l.length∧out++gq a (l.drop l.length)=gq a l:=by simpa using hI
   rw [List.take_length] at h1
   rw [List.drop_length,EB,h1] at h2
   rw [if_neg (by decide)]
   exact ⟨h1,h2.symm⟩
  | true=>
   have h2:out++l.drop l.length=gq a l:=by simpa using hI
   rw [List.drop_length,List.append_nil] at h2
   rw [if_pos rfl];exact h2
 ·match y,hy with
  | .inl y,⟨b,out,e,hb⟩=>
   subst e
   cases b with
   | false=>
    obtain ⟨h1,h2⟩:out=l∧gq a l=l++[a]:=by simpa using hb
    subst h1
    show aa (gd (Nat.ble (out.length+1) 9223372036854775807&&Nat.ble ((out.length+1)*40) 140737488355328) (some (out++[a],()))) _
    refine aa.gd (B8 (by omega) (by decide)) ⟨_,rfl,?_⟩
    rw [h2]
   | true=>
    have h1:out=gq a l:=by simpa using hb
    subst h1
    exact ⟨_,rfl,rfl⟩
def rV (M:List dc):List dc:=M.foldl (fun acc x=>gq x acc) []
def FB (L:List cQ):dQ L=rV (gw L):=by
 unfold dQ kY
 rw [ax.Co (fun p:ax.PA=>p.1) Lr nt (fun _=>rfl),List.map_map]
 have:(nt∘s4)=id:=funext zm
 rw [this,List.map_id];rfl
def uX (M:List dc):∀acc:List dc,(M.foldl (fun acc x=>gq x acc) acc).length=acc.length+M.length:=by
 induction M with
 | nil=>intro acc;rfl
 | cons x M ih=>intro acc;rw [List.foldl_cons,ih,Ea,List.length_cons];omega
def CQ {L:List cQ} {k:Nat} (hk:k<L.length):gw (L.take (k+1))=gw (L.take k)++gp (L.getD k fJ):=by
 unfold gw
 rw [List.take_succ_eq_append_getElem hk,List.flatMap_append,List.flatMap_singleton,bE hk]
def Fz {n:Nat} (L:List cQ) (h:lX n L) (hn:n≤1000):F_15 (L,())=some (dQ L,()):=by
 rw [FB]
 have hL9:L.length≤9223372036854775807:=Nat.le_trans h.1 (Nat.le_trans hn (by decide))
 refine aa.of_eq (Q:=fun _=>True) (aa.of (Uv (L,())) ?_)
 have hL:=h.1
 have hlen:∀k,(gw (L.take k)).length≤20000:=fun k=>by
  have h1:=nW (n:=20) (L:=L.take k) fun c hc=>(h.2 c (List.mem_of_mem_take hc)).1
  have h2:(L.take k).length≤L.length:=by rw [List.length_take];omega
  omega
 refine aa.xb (aa.cnt (Q:=fun r:(((List dc)×Unit)×(Unit×Unit)) ⊕ Empty=>match r with | .inl y=>y.1.1=rV (gw L) | .inr _=>False) (fun k st=>∃J:List dc,J=rV (gw (L.take k))∧st=((L,J,(k:Int),()),(),())) L.length (by omega) (fun k st hk hI=>?_) (fun st hI=>?_) ⟨[],rfl,rfl⟩) (fun y hy=>?_)
 ·obtain ⟨J,hJ,rfl⟩:=hI
  have ek:L.getD (Int.toNat (k:Int)) fJ=L.getD k fJ:=by rw [Int.toNat_natCast]
  have hm:L.getD k fJ∈L:=by rw [bE hk];exact List.getElem_mem hk
  have hc:(gp (L.getD k fJ)).length≤20:=(h.2 _ hm).1
  refine aa.br (fun _=>?_) (fun h=>absurd (cr hk) (by rw [h];simp))
  refine aa.xb (aa.idx (Q:=fun r:(((List cQ)×((List dc)×(Int×Unit)))×(Unit×Unit)) ⊕ Empty=>match r with | .inl y=>∃J':List dc,J'=rV (gw (L.take (k+1)))∧y=((L,J',(k:Int),()),(),()) | .inr _=>False) (fun i=>((L,((gp (L.getD k fJ)).take i).foldl (fun acc x=>gq x acc) J,(k:Int),(i:Int),()),(),())) (fun _=>True) (gp (L.getD k fJ)).length (by omega) trivial (fun i hi _=>?_) (fun _=>?_) rfl) (fun z hz=>?_)
  ·have hi':i<List.length (L.getD (Int.toNat (k:Int)) fJ).1:=by rw [ek];exact hi
   refine aa.gd (b9 hk) (aa.gd (bf hk) (aa.br (fun _=>?_) (fun h=>absurd (cr hi') (by rw [h];simp))))
   refine aa.gd (b9 hk) (aa.gd (bf hk) (aa.gd (b9 hi') (aa.gd (bf hi') ?_)))
   have ea:List.getD (L.getD (Int.toNat (k:Int)) fJ).1 (Int.toNat (i:Int)) cI=(gp (L.getD k fJ)).getD i cI:=by rw [ek,Int.toNat_natCast];rfl
   have hb:(((gp (L.getD k fJ)).take i).foldl (fun acc x=>gq x acc) J).length≤100000:=by
    have h1:=hlen k
    have h2:J.length=(gw (L.take k)).length:=by rw [hJ];unfold rV;rw [uX];simp
    rw [uX,List.length_take]
    omega
   have ep:F_11 (((gp (L.getD k fJ)).take i).foldl (fun acc x=>gq x acc) J,List.getD (L.getD (Int.toNat (k:Int)) fJ).1 (Int.toNat (i:Int)) cI,())=some (gq ((gp (L.getD k fJ)).getD i cI) (((gp (L.getD k fJ)).take i).foldl (fun acc x=>gq x acc) J),()):=
    (congrArg (fun t:dc=>F_11 (((gp (L.getD k fJ)).take i).foldl (fun acc x=>gq x acc) J,t,())) ea).trans (put_eq _ _ hb)
   refine aa.gj ep (aa.gd (aU hi (by omega)) ⟨_,rfl,?_,trivial⟩)
   rw [List.take_succ_eq_append_getElem hi,List.foldl_append,← bE (d:=cI) hi];rfl
  ·have e0:decide ((((gp (L.getD k fJ)).length:Nat):Int)<((List.length (L.getD (Int.toNat (k:Int)) fJ).1:Nat):Int))=false:=by rw [ek];exact cq
   refine aa.gd (b9 hk) (aa.gd (bf hk) (aa.br (fun h=>absurd e0 (by rw [h];simp)) (fun _=>⟨_,rfl,_,?_,rfl⟩)))
   rw [List.take_length,CQ hk,hJ]
   unfold rV
   rw [List.foldl_append]
  ·match z,hz with
   | .inl z,⟨J',h1,e⟩=>
    subst e
    refine aa.of Jy ?_
    refine aa.gd (aU hk hL9) ?_
    exact ⟨_,rfl,J',h1,rfl⟩
 ·obtain ⟨J,hJ,rfl⟩:=hI
  refine aa.br (fun h=>absurd cq (by rw [h];simp)) (fun _=>⟨_,rfl,?_⟩)
  show J=_
  rw [hJ,List.take_length]
 ·match y,hy with
  | .inl ((y,u1),u2),e=>
   have e:y=rV (gw L):=e
   subst e
   exact ⟨_,rfl,rfl⟩
end Go.Proofs.YtdbjakibneeeiaaGreatDoor.Ex
namespace Go.Proofs.YtdbjakibneeeiaaGreatDoor.Ex
open Go.RowKit Sx
def YD (v:cU) (w:Int) (s:P_2) (h:uP s):de v w s=true↔(1≤w∧IM s∧bG v w s):=by
 obtain ⟨⟨b,u⟩,e,hb⟩:=KT v w s h
 have e2:=qw v w s h
 rw [e] at e2
 have e3:b=de v w s:=congrArg (fun o:Option (af [.bool])=>match o with | some x=>x.1 | none=>false) e2
 rw [← e3];exact hb
def Zc {w:Int} (V:Nat→cU) (S:Nat→P_2):∀(n m i:Nat),(∀j,i≤j→j<i+n→de (V j) w (S j)=true∧(aB (V j) w (S j)).1=V (j+1)∧(aB (V j) w (S j)).2.1=S (j+1))→gF (n+m) (V i) w (S i)=gF m (V (i+n)) w (S (i+n))
 | 0,m,i,_=>by rw [Nat.zero_add];rfl
 | n+1,m,i,h=>by
  obtain ⟨h1,h2,h3⟩:=h i (Nat.le_refl _) (by omega)
  rw [Nat.succ_add]
  show (bif de (V i) w (S i) then gF (n+m) (aB (V i) w (S i)).1 w (aB (V i) w (S i)).2.1 else (V i,S i))=_
  rw [h1,cond_true,h2,h3,Zc V S n m (i+1) (fun j h4 h5=>h j (by omega) (by omega))]
  have:i+1+n=i+(n+1):=by omega
  rw [this]
def IM.a1t {s:P_2} (h:IM s) {L:List Int} (hl:L.length=List.length s.2.1) (h0:∀i,i<L.length→0≤GA L i):IM (s.1,L,s.2.2):=by
 obtain ⟨h1,h2,h3,h4,h5,h6,h7⟩:=h
 refine ⟨h1,by show (L.length:Int)=s.1.1;rw [hl];exact h2,h3,h4,h5,h6,fun i hi=>⟨h0 i hi,(h7 i (by rw [← hl];exact hi)).2⟩⟩
def qi (s:P_2) (k:Nat):List Int:=(List.take k s.2.2.2.1:List cQ).map fun c=>c.2.1
abbrev Zt:T8:=((0:Int),((0:Int),(0:Int),(0:Int),(0:Int),(0:Int),ByteArray.empty,()),[],(0:Int),())
def Yy (g ph at_ tr:Int) (vs:List Int) (cp:List cQ):cU:=(g,ph,at_,tr,vs,cp,Zt,())
def YN {A:Type} {L:List A} {d:A} {k:Nat} (h:k<L.length):L.take (k+1)=L.take k++[L.getD k d]:=by
 rw [List.take_succ_eq_append_getElem h,bE h]
def YJ (s:P_2) (k:Nat):gl s (k:Int)=List.getD s.2.2.2.1 k fJ:=by unfold gl;rw [Int.toNat_natCast]
def ZJ {s:P_2} {k:Nat} (h:k<List.length s.2.2.2.1):qi s (k+1)=qi s k++[(gl s (k:Int)).2.1]:=by
 unfold qi
 rw [YN (d:=fJ) h,List.map_append,YJ];rfl
def ZX {v:cU} {n:Int} (h:v.2.2.1+1≠n):cm v n=(v.1,v.2.1,v.2.2.1+1,v.2.2.2):=by
 unfold cm;rw [beq_false_of_ne h];rfl
def ZZ {v:cU} {n:Int} (h:v.2.2.1+1=n):cm v n=(v.1,v.2.1+1,0,v.2.2.2):=by
 unfold cm;rw [h,beq_self_eq_true];rfl
section
variable {g w tr : Int} {s : P_2}
def Zl {k:Nat} (hs:xW s) (hp:IM s) (hw:1≤w) (hk:k<List.length s.2.1) (hz:GA s.2.1 k=0) :
  de (Yy g 0 k tr (qi s k) []) w s=true∧aB (Yy g 0 k tr (qi s k) []) w s=(cm (Yy g 0 k tr (qi s (k+1)) []) s.1.1,s,0,()):=by
 have hl:List.length s.2.2.2.1=List.length s.2.1:=hp.may.2.1
 refine ⟨(YD _ w s hs.cl).2 ⟨hw,hp,.inl ⟨rfl,by show (0:Int)≤(k:Int);omega,by show (k:Int)<_;omega⟩⟩,?_⟩
 have hf:bT s.2.1 (k:Int)=true:=by
  unfold bT
  rw [dA.2 ⟨by omega,by omega⟩,Bool.true_and,Int.toNat_natCast]
  exact (beq_iff_eq (α:=Int)).2 hz
 have e:aB (Yy g 0 k tr (qi s k) []) w s=(bif bT s.2.1 (k:Int) then cm (kM (Yy g 0 k tr (qi s k) []) (qi s k++[(gl s (k:Int)).2.1])) s.1.1 else dn (Yy g 0 k tr (qi s k) []),s,0,()):=rfl
 rw [e,hf,← ZJ (by omega)];rfl
def a1o {k:Nat} (hs:xW s) (hp:IM s) (hw:1≤w) (hk:k<List.length s.2.1) (hz:GA s.2.1 k≠0) :
  de (Yy g 0 k tr (qi s k) []) w s=true∧aB (Yy g 0 k tr (qi s k) []) w s=(dn (Yy g 0 k tr (qi s k) []),s,0,()):=by
 refine ⟨(YD _ w s hs.cl).2 ⟨hw,hp,.inl ⟨rfl,by show (0:Int)≤(k:Int);omega,by show (k:Int)<_;omega⟩⟩,?_⟩
 have hf:bT s.2.1 (k:Int)=false:=by
  unfold bT
  rw [dA.2 ⟨by omega,by omega⟩,Bool.true_and,Int.toNat_natCast]
  exact beq_false_of_ne hz
 have e:aB (Yy g 0 k tr (qi s k) []) w s=(bif bT s.2.1 (k:Int) then cm (kM (Yy g 0 k tr (qi s k) []) (qi s k++[(gl s (k:Int)).2.1])) s.1.1 else dn (Yy g 0 k tr (qi s k) []),s,0,()):=rfl
 rw [e,hf];rfl
end
end Go.Proofs.YtdbjakibneeeiaaGreatDoor.Ex
namespace Go.Proofs.YtdbjakibneeeiaaGreatDoor.Ex
open Go.RowKit Sx
def Zs (g ph k tr:Int) (vs:List Int) (cp:List cQ) (n:Int):cm (Yy g ph k tr vs cp) n=if k+1=n then Yy g (ph+1) 0 tr vs cp else Yy g ph (k+1) tr vs cp:=by
 by_cases h:k+1=n
 ·rw [if_pos h];exact ZZ h
 ·rw [if_neg h];exact ZX h
def YI {w:Int} (n:Nat) (hn:0<n) (V:Nat→cU) (S:Nat→P_2) (E:cU) (a m:Nat) (ha:a<n)
  (h:∀k,a≤k→k<n→de (V k) w (S k)=true∧(aB (V k) w (S k)).1=(if k+1=n then E else V (k+1))∧(aB (V k) w (S k)).2.1=S (k+1)):gF (n - a+m) (V a) w (S a)=gF m E w (S n):=by
 have:=Zc (w:=w) (fun k=>if k<n then V k else E) S (n - a) m a (fun j h1 h2=>by
  obtain ⟨q1,q2,q3⟩:=h j h1 (by omega)
  have e1:(if j<n then V j else E)=V j:=if_pos (by omega)
  have e2:(if j+1<n then V (j+1) else E)=if j+1=n then E else V (j+1):=by
   by_cases c:j+1=n
   ·rw [if_pos c,if_neg (by omega)]
   ·rw [if_neg c,if_pos (by omega)]
  show de (if j<n then V j else E) w (S j)=true∧(aB (if j<n then V j else E) w (S j)).1=(if j+1<n then V (j+1) else E)∧_
  rw [e1,e2]
  exact ⟨q1,q2,q3⟩)
 have e1:(if a<n then V a else E)=V a:=if_pos ha
 have e2:a+(n - a)=n:=by omega
 rw [e2] at this
 have e3:(if n<n then V n else E)=E:=if_neg (Nat.lt_irrefl _)
 have t:gF (n - a+m) (if a<n then V a else E) w (S a)=gF m (if n<n then V n else E) w (S n):=this
 rwa [e1,e3] at t
section
variable {g w : Int} {s : P_2}
def YK {k n:Nat} {A:Type} {x y:A} {c:Int} (hc:(n:Int)=c):(if (k:Int)+1=c then x else y)=if k+1=n then x else y:=by
 by_cases h:k+1=n
 ·rw [if_pos h,if_pos (by omega)]
 ·rw [if_neg h,if_neg (by omega)]
def a1p (X Y:List Int) (k:Nat):List Int:=X.take k++Y.drop k
def a1G {X Y:List Int} {n k:Nat} (hX:X.length=n) (hY:Y.length=n) (hk:k≤n):(a1p X Y k).length=n:=by
 unfold a1p;rw [List.length_append,List.length_take,List.length_drop];omega
def a1g {X Y:List Int} {n k i:Nat} (hX:X.length=n) (hk:k≤n) (hi:i<k):(a1p X Y k).getD i 0=X.getD i 0:=by
 unfold a1p
 rw [List.getD_eq_getElem?_getD,List.getElem?_append_left (by rw [List.length_take];omega),List.getElem?_take_of_lt hi,← List.getD_eq_getElem?_getD]
def a17 {X Y:List Int} {n k i:Nat} (hX:X.length=n) (hk:k≤n) (hi:k≤i):(a1p X Y k).getD i 0=Y.getD i 0:=by
 unfold a1p
 rw [List.getD_eq_getElem?_getD,List.getElem?_append_right (by rw [List.length_take];omega),List.getElem?_drop,List.length_take,← List.getD_eq_getElem?_getD]
 congr 1;omega
def a1b {X Y:List Int} {n k:Nat} (hX:X.length=n) (hY:Y.length=n) (hk:k<n) {x:Int} (hx:X.getD k 0=x):(a1p X Y k).set k x=a1p X Y (k+1):=by
 refine EW (by rw [List.length_set,a1G hX hY (by omega),a1G hX hY (by omega)]) fun i hi=>?_
 rw [a1G hX hY (by omega)] at hi
 rw [oz (by rw [a1G hX hY (by omega)];exact hk)]
 by_cases c:i=k
 ·rw [if_pos c,c,a1g hX (by omega) (by omega),hx]
 ·rw [if_neg c]
  by_cases d:i<k
  ·rw [a1g hX (by omega) d,a1g hX (by omega) (by omega)]
  ·rw [a17 hX (by omega) (by omega),a17 hX (by omega) (by omega)]
def a1u (X Y:List Int):a1p X Y 0=Y:=rfl
def a1A {X Y:List Int} {n:Nat} (hX:X.length=n) (hY:Y.length=n):a1p X Y n=X:=by
 unfold a1p
 rw [← hX,List.take_length,hX,← hY,List.drop_length,List.append_nil]
def a0Z {n i:Nat} {x:Int} (h:i<n):(List.replicate n x).getD i 0=x:=by
 rw [bE (by rw [List.length_replicate];exact h),List.getElem_replicate]
def a1q (s:P_2) (L:List Int):P_2:=(s.1,L,s.2.2)
def a19 (hs:xW s) {L:List Int} (h:L.length=List.length s.2.1):xW (a1q s L):=⟨by show L.length≤10;rw [h];exact hs.1,hs.2⟩
def a1h (hp:IM s) {X Y:List Int} {n k:Nat} (hn:List.length s.2.1=n) (hX:X.length=n) (hY:Y.length=n) (hk:k≤n) (x0:∀i,i<n→0≤X.getD i 0) (y0:∀i,i<n→0≤Y.getD i 0):IM (a1q s (a1p X Y k)):=
 hp.a1t (by rw [a1G hX hY hk,hn]) fun i hi=>by
  rw [a1G hX hY hk] at hi
  unfold GA
  by_cases c:i<k
  ·rw [a1g hX hk c];exact x0 i hi
  ·rw [a17 hX hk (by omega)];exact y0 i hi
def a1r (hs:xW s) (hp:IM s) (hw:1≤w) {Y:List Int} {n a b m:Nat} (hn:List.length s.2.1=n) (hY:Y.length=n) (y0:∀i,i<n→0≤Y.getD i 0) (hab:a≤b) (hb:b≤n) (hz:∀i,a≤i→i<b→Y.getD i 0=0) (hbn:b<n) :
  gF (b - a+m) (Yy g 3 a 2 [] []) w (a1q s (a1p (List.replicate n w) Y a))=gF m (Yy g 3 b 2 [] []) w (a1q s (a1p (List.replicate n w) Y b)):=by
 have hX:(List.replicate n w).length=n:=List.length_replicate
 have x0:∀i,i<n→0≤(List.replicate n w).getD i 0:=fun i hi=>by rw [a0Z hi];omega
 have hc:((n:Nat):Int)=s.1.1:=by rw [← hn];exact hp.may.1
 have:=Zc (w:=w) (fun k=>Yy g 3 k 2 [] []) (fun k=>a1q s (a1p (List.replicate n w) Y k)) (b - a) m a (fun k h1 h2=>by
  have hk:k<n:=by omega
  have hS:=a19 hs (L:=a1p (List.replicate n w) Y k) (by rw [a1G hX hY (by omega),hn])
  have hP:=a1h hp (k:=k) hn hX hY (by omega) x0 y0
  have hf:bT (a1p (List.replicate n w) Y k) (k:Int)=true:=by
   unfold bT
   rw [dA.2 ⟨by omega,by rw [a1G hX hY (by omega)];omega⟩,Bool.true_and,Int.toNat_natCast,a17 hX (by omega) (Nat.le_refl _),hz k h1 (by omega)];rfl
  refine ⟨(YD _ w _ hS.cl).2 ⟨hw,hP,.inr (.inr (.inr (.inl ⟨rfl,hf⟩)))⟩,?_,?_⟩
  ·have e:(aB (Yy g 3 k 2 [] []) w (a1q s (a1p (List.replicate n w) Y k))).1=cm (Yy g 3 k 2 [] []) s.1.1:=rfl
   rw [e,Zs,if_neg (by omega)];rfl
  ·have e:(aB (Yy g 3 k 2 [] []) w (a1q s (a1p (List.replicate n w) Y k))).2.1=a1q s ((a1p (List.replicate n w) Y k).set (k:Int).toNat w):=rfl
   rw [e,Int.toNat_natCast,a1b hX hY hk (a0Z hk)])
 have e:a+(b - a)=b:=by omega
 rw [e] at this
 exact this
end
end Go.Proofs.YtdbjakibneeeiaaGreatDoor.Ex
namespace Go.Proofs.YtdbjakibneeeiaaGreatDoor.Ex
open Go.RowKit Sx
def Za (L:List dc):Prop:=L.length≤1000000∧∀a∈L,List.length a.2.2.1≤1000000
def Zd (c:Mf) (L:List dc) (n:Int) (o:P_7) (r:T8) (h:Za L):a0b ((c,(L,n,()),o,()),r,())=some (L,r,[],()):=by
 refine aa.of_eq (Q:=fun _=>True) (aa.of (a0n ((c,(L,n,()),o,()),r,())) ?_)
 refine aa.gj (iB h.1) ?_
 have hL:L.length≤9223372036854775807:=Nat.le_trans h.1 (by decide)
 refine aa.xb (aa.idx (Q:=fun z=>match z with | .inl y=>y.2.1.1.1=r∧y.2.2.1=L | .inr y=>False) (fun k=>(((L.length:Int),(k:Int),()),((r,()),(Zt,()),()),L,())) (fun _=>True) L.length hL trivial (fun k hk _=>?_) (fun _=>?_) rfl) (fun y hy=>?_)
 ·have eg2:L.getD (Int.toNat (k:Int)) ((0:Int),(0:Int),[],())=L[k]:=by rw [Int.toNat_natCast];exact bE hk
  have hm2:L[k]∈L:=List.getElem_mem hk
  refine aa.br (fun _=>?_) (fun h=>absurd (cr hk) (by rw [h];simp))
  refine aa.gd (b9 hk) (aa.gd (bf hk) ?_)
  have e2:uM (L.getD (Int.toNat (k:Int)) ((0:Int),(0:Int),[],())).2.2.1=some (L[k]).2.2.1:=by rw [eg2];exact iB (h.2 _ hm2)
  refine aa.gj e2 (aa.gd (b9 hk) (aa.gd (bf hk) (aa.gd (aU hk hL) ⟨_,rfl,?_,trivial⟩)))
  show ((_,(k:Int)+1,()),((r,()),(Zt,()),()),List.set L (Int.toNat (k:Int)) ((L.getD (Int.toNat (k:Int)) ((0:Int),(0:Int),[],())).1,(L.getD (Int.toNat (k:Int)) ((0:Int),(0:Int),[],())).2.1,(L[k]).2.2.1,()),())=_
  have e3:List.set L (Int.toNat (k:Int)) ((L.getD (Int.toNat (k:Int)) ((0:Int),(0:Int),[],())).1,(L.getD (Int.toNat (k:Int)) ((0:Int),(0:Int),[],())).2.1,(L[k]).2.2.1,())=L:=by
   rw [eg2,Int.toNat_natCast];exact List.set_getElem_self hk
  rw [e3];rfl
 ·exact aa.br (fun h=>absurd cq (by rw [h];simp)) (fun _=>⟨_,rfl,rfl,rfl⟩)
 ·match y,hy with
  | .inl (u1,((r2,u2),u3),y,u4),⟨e1,e⟩=>
   have e1:r2=r:=e1
   have e:y=L:=e
   subst e1 e
   exact ⟨_,rfl,rfl⟩
def Zx (c:Mf) (L:List dc) (n:Int) (o:P_7) (e:Int) (h:Za L):∃r:T8,a0h ((c,(L,n,()),o,()),e,())=some (L,r,[],()):=
 ⟨_,(a0u _).trans (aY (Zd c L n o _ h))⟩
def ZL (n:Int):Int:=if 0≤n∧n≤400 then (if (1:Int)>Go.IntKind.i64.wrap ((n+31).tdiv 32) then 1 else Go.IntKind.i64.wrap ((n+31).tdiv 32)) else 0
def ZD (n:Int):NL (n,())=some (ZL n,()):=by
 refine (a0l (n,())).trans ?_
 have e:PB (n,(400:Int),())=some (decide (0≤n)&&decide (n≤400),()):=by
  refine (a0t (n,(400:Int),())).trans ?_
  show az (decide (0≤n)==true) (some (decide (n≤400),())) (some (false,()))=_
  cases decide (0≤n) <;> rfl
 refine (aY e).trans ?_
 unfold ZL
 by_cases h:0≤n∧n≤400
 ·rw [if_pos h,decide_eq_true h.1,decide_eq_true h.2]
  show gd (dx (n+32)) (gd (dx (n+32 - 1)) _)=_
  rw [aT (kr.2 (by omega)),aT (kr.2 (by omega))]
  have e2:n+32 - 1=n+31:=by omega
  rw [e2]
  congr 2
  split <;> split <;> omega
 ·rw [if_neg h]
  have:(decide (0≤n)&&decide (n≤400))=false:=by
   rw [Bool.and_eq_false_iff,decide_eq_false_iff_not,decide_eq_false_iff_not];omega
  rw [this];rfl
def YR {n:Int} (h:¬ (0≤n∧n≤400)):ZL n=0:=if_neg h
def Zr {n:Int} (h:0≤n∧n≤400):ZL n=if (1:Int)>Go.IntKind.i64.wrap ((n+31).tdiv 32) then 1 else Go.IntKind.i64.wrap ((n+31).tdiv 32):=if_pos h
def ZC (n:Int):Zf (n,())=some (ZL n,()):=by
 refine (a0E (n,())).trans ?_
 by_cases h0:n<0
 ·rw [YR (by omega)]
  show az (decide (n<0)==false) _ _=_
  rw [decide_eq_true h0];rfl
 ·by_cases h1:n>400
  ·rw [YR (by omega)]
   show az (decide (n<0)==false) (az (decide (n>400)) _ _) _=_
   rw [decide_eq_false h0,decide_eq_true h1];rfl
  ·rw [Zr (by omega)]
   show az (decide (n<0)==false) (az (decide (n>400)) _ (gd (dx (n+31)) _)) _=_
   rw [decide_eq_false h0,decide_eq_false h1,kr.2 (by omega)];rfl
def Yt {A:Type} (f:A→Int) (L:List A):Int:=(L.map f).sum
def YC {A:Type} (f:A→Int) (L:List A) {k:Nat} (h:k<L.length):Yt f (L.take (k+1))=Yt f (L.take k)+f L[k]:=by
 unfold Yt
 rw [List.take_succ_eq_append_getElem h,List.map_append,List.sum_append]
 simp
def Zb {A:Type} (f:A→Int) (c:Int):∀(L:List A),(∀x∈L,0≤f x∧f x≤c)→0≤Yt f L∧Yt f L≤c*L.length
 | [],_=>⟨Int.le_refl _,by simp [Yt]⟩
 | x::L,h=>by
  have h1:=h x List.mem_cons_self
  have h2:=Zb f c L fun y hy=>h y (List.mem_cons_of_mem _ hy)
  have e:Yt f (x::L)=f x+Yt f L:=by simp [Yt]
  rw [e,List.length_cons,Int.natCast_add,Int.mul_add]
  constructor
  ·omega
  ·have:c*((1:Nat):Int)=c:=by simp
   omega
def YW {A:Type} (f:A→Int) {c:Int} {L:List A} (h:∀x∈L,0≤f x∧f x≤c) (hc:0≤c) (hb:c*L.length≤9223372036854775807) (k:Nat):dx (Yt f (L.take k))=true:=by
 have h1:=Zb f c (L.take k) fun x hx=>h x (List.mem_of_mem_take hx)
 have h2:c*((L.take k).length:Int)≤c*(L.length:Int):=Int.mul_le_mul_of_nonneg_left (by rw [List.length_take];omega) hc
 exact kr.2 ⟨by omega,by omega⟩
def YF {A:Type} (f:A→Int) (L:List A):Yt f (L.take L.length)=Yt f L:=by rw [List.take_length]
def Zm (t:xu):txn.Tx:=txn.Tx.mk t.1 t.2.1 t.2.2.1 t.2.2.2.1 t.2.2.2.2.1 t.2.2.2.2.2.1
def YS (t:xu):Int:=if (Zm t).ok then ZL ((txn.fH (Zm t)).length:Int) else 0
def ZS (n:Int):0≤ZL n∧ZL n≤13:=by
 by_cases h:0≤n∧n≤400
 ·rw [Zr h]
  have h1:0≤(n+31).tdiv 32∧(n+31).tdiv 32≤13:=by
   rw [Int.tdiv_eq_ediv_of_nonneg (by omega)];omega
  have e:Go.IntKind.i64.wrap ((n+31).tdiv 32)=(n+31).tdiv 32:=by
   simp [Go.IntKind.wrap,Go.IntKind.bits,Go.IntKind.signed]
   omega
  rw [e]
  split <;> omega
 ·rw [YR h];omega
def Z6 (t:xu):0≤YS t∧YS t≤13:=by
 unfold YS;split
 ·exact ZS _
 ·omega
def a0c (t:xu) (h:ByteArray.size t.2.2.2.2.2.1≤maxLen):Oo (t,())=some (⟨(txn.fH (Zm t)).toArray⟩,(Zm t).ok,()):=by
 unfold Oo
 show (bif decide (ByteArray.size t.2.2.2.2.2.1≤maxLen) then some _ else none)=_
 rw [decide_eq_true h];rfl
def a0d (t:xu) (h:ByteArray.size t.2.2.2.2.2.1≤maxLen):Pu (t,())=some (YS t,()):=by
 refine (a0q (t,())).trans ((aY (a0c t h)).trans ?_)
 show az (!(Zm t).ok) (some ((0:Int),())) (xb (NL ((((txn.fH (Zm t)).toArray.size:Nat):Int),())) fun y=>some y)=_
 unfold YS
 cases (Zm t).ok with
 | false=>rfl
 | true=>exact (aY (ZD _)).trans (by rw [List.size_toArray];rfl)
def Zn (t:xu):Prop:=ByteArray.size t.2.2.2.2.2.1≤maxLen
def YU (a:dc):Prop:=List.length a.2.2.1≤1000000∧∀t:xu,t∈a.2.2.1→Zn t
def a10 (a:dc):Int:=Yt YS a.2.2.1
def Ze (a:dc) (h:YU a):0≤a10 a∧a10 a≤13000000:=by
 have h1:=Zb YS 13 a.2.2.1 fun t _=>Z6 t
 have h2:=h.1
 unfold a10
 exact ⟨h1.1,Int.le_trans h1.2 (by omega)⟩
def a01 (a:dc) (h:YU a):OK (a,())=some (a10 a,()):=by
 refine aa.of_eq (Q:=fun _=>True) (aa.of (a0w (a,())) ?_)
 have hL:List.length a.2.2.1≤9223372036854775807:=Nat.le_trans h.1 (by decide)
 have hb:(13:Int)*(List.length a.2.2.1:Int)≤9223372036854775807:=by have:=h.1;omega
 refine aa.xb (aa.idx (Q:=fun z=>match z with | .inl y=>y.1.1=a10 a | .inr y=>False) (fun k=>((Yt YS (a.2.2.1.take k),a.2.2.1,((List.length a.2.2.1:Nat):Int),(k:Int),()),(),())) (fun _=>True) (List.length a.2.2.1) hL trivial (fun k hk _=>?_) (fun _=>?_) rfl) (fun y hy=>?_)
 ·have eg:(a.2.2.1:List xu).getD (Int.toNat (k:Int)) nZ=(a.2.2.1:List xu)[k]:=by rw [Int.toNat_natCast];exact bE hk
  refine aa.br (fun _=>?_) (fun h=>absurd (cr hk) (by rw [h];simp))
  refine aa.gd (b9 hk) (aa.gd (bf hk) ?_)
  have e2:Pu ((a.2.2.1:List xu).getD (Int.toNat (k:Int)) nZ,())=some (YS (a.2.2.1:List xu)[k],()):=by rw [eg];exact a0d _ (h.2 _ (List.getElem_mem hk))
  refine aa.gj e2 ?_
  have e3:=YC YS (a.2.2.1:List xu) hk
  refine aa.gd (by rw [← e3];exact YW YS (fun t _=>Z6 t) (by decide) hb _) (aa.gd (aU hk hL) ⟨_,rfl,?_,trivial⟩)
  rw [e3];rfl
 ·exact aa.br (fun h=>absurd cq (by rw [h];simp)) (fun _=>⟨_,rfl,YF YS a.2.2.1⟩)
 ·match y,hy with
  | .inl ((r,u1),u2),e=>
   have e:r=a10 a:=e
   subst e
   exact ⟨_,rfl,rfl⟩
def MJ (L:List dc):Prop:=L.length≤1000000∧∀a∈L,YU a
def YB (L:List dc):Int:=Yt a10 L
def a07 (L:List dc) (n:Int) (h:MJ L):a0i ((L,n,()),())=some (YB L,()):=by
 refine aa.of_eq (Q:=fun _=>True) (aa.of (a0D ((L,n,()),())) ?_)
 have hL:L.length≤9223372036854775807:=Nat.le_trans h.1 (by decide)
 have hb:(13000000:Int)*(L.length:Int)≤9223372036854775807:=by have:=h.1;omega
 refine aa.xb (aa.idx (Q:=fun z=>match z with | .inl y=>y.1.1=YB L | .inr y=>False) (fun k=>((Yt a10 (L.take k),L,((L.length:Nat):Int),(k:Int),()),(),())) (fun _=>True) L.length hL trivial (fun k hk _=>?_) (fun _=>?_) rfl) (fun y hy=>?_)
 ·have eg:L.getD (Int.toNat (k:Int)) cI=L[k]:=by rw [Int.toNat_natCast];exact bE hk
  refine aa.br (fun _=>?_) (fun h=>absurd (cr hk) (by rw [h];simp))
  refine aa.gd (b9 hk) (aa.gd (bf hk) ?_)
  have e2:OK (L.getD (Int.toNat (k:Int)) cI,())=some (a10 L[k],()):=by rw [eg];exact a01 _ (h.2 _ (List.getElem_mem hk))
  refine aa.gj e2 ?_
  have e3:=YC a10 L hk
  refine aa.gd (by rw [← e3];exact YW a10 (fun a ha=>Ze a (h.2 a ha)) (by decide) hb _) (aa.gd (aU hk hL) ⟨_,rfl,?_,trivial⟩)
  rw [e3];rfl
 ·exact aa.br (fun h=>absurd cq (by rw [h];simp)) (fun _=>⟨_,rfl,YF a10 L⟩)
 ·match y,hy with
  | .inl ((r,u1),u2),e=>
   have e:r=YB L:=e
   subst e
   exact ⟨_,rfl,rfl⟩
def ZB (L:List dc) (h:MJ L):a0v (L,())=some (YB L,()):=(a0B (L,())).trans (aY (a07 L 0 h))
def e_b {b:Bool} {A:Prop} (h:b=true↔A):(b==true)=true↔A:=by rw [← h];cases b <;> simp
def a02 (per:Int):Mf:=(1,0,0,per,0,0,0,0,())
def ZG (c:Mf) (L:List dc) (h:MJ L):Says (a03 (c,L,())) (Aq c∧Ag (L,0,()) 0 (a02 c.2.2.2.1)∧YB L≤c.2.2.1):=
 aa.of (a0r (c,L,())) (Says.xb (MU c) fun b hb=>Says.GC (OR hb) fun _=>Says.xb (PR (L,0,()) 0 (a02 c.2.2.2.1) h.1 fun a ha=>(h.2 a ha).1) fun b2 hb2=>Says.iG (e_b hb2) fun _=>aa.gj (ZB L h) (Says.of LA))
def P13 (per:Int) (L:List dc) (i:Nat):Prop:=CF (mz L i) per∧¬ ER (mz L i)∧(0<i→(mz L (i - 1)).1<(mz L i).1)
def Zj {s:Int} (h0:0≤s) (h1:s≤255):mL.fE s 1=0:=by
 unfold mL.fE
 rw [if_pos ⟨h0,h1,by decide,by decide⟩]
 exact Int.emod_one _
def ZY {c:Mf} {L:List dc} {T:Int} (h:Aq c∧T≤c.2.2.1∧∀i,i<L.length→P13 c.2.2.2.1 L i):Aq c∧Ag (L,0,()) 0 (a02 c.2.2.2.1)∧T≤c.2.2.1:=
 ⟨h.1,⟨Int.le_refl 0,by show (0:Int)≤1099511627776;decide,fun i hi=>⟨(h.2.2 i hi).1,(h.2.2 i hi).2.1,Zj (h.2.2 i hi).1.1 (h.2.2 i hi).1.2.1,(h.2.2 i hi).2.2⟩⟩,h.2.1⟩
end Go.Proofs.YtdbjakibneeeiaaGreatDoor.Ex
namespace Go.Proofs.YtdbjakibneeeiaaGreatDoor.Ex
open Go.RowKit Sx Rn queue
abbrev PoA:List Sh:=[Q_3,.row Q_2,Q_4]
abbrev PoR:List Sh:=[.row Q_2,Q_7,.row Q_8]
def ZF (x:af PoA):Den Q_6:=(x.1,((x.2.1,(0:Int),()):Den Q_5),x.2.2.1,())
def isT (k:Int):Bool:=k==5
def ZQ (k:Int):k=5∨isT k=false:=by
 by_cases h:k=5
 ·exact .inl h
 ·exact .inr (beq_false_of_ne h)
@[irreducible] def YY (x:af PoA):Option (af PoR):=
 bif isT x.2.2.1.1 then xb (a03 (x.1,x.2.1,())) fun b=>az b.1 (a0j (ZF x,())) (a0h (ZF x,(1:Int),())) else none
def s_O:bI:=⟨PoA,PoR,YY⟩
def ZH {R:Type} {c:Bool} {x y:Option R} {r:R} (hc:c=false) (h:az c x y=some r):y=some r:=by subst hc;exact h
def Zo {R:Type} {c:Bool} {x y:Option R} {r:R} (hc:c=true) (h:az c x y=some r):x=some r:=by subst hc;exact h
def Zy {R:Type} {k:Int} {o:Option R} {r:R} (h:(bif isT k then o else none)=some r):k=5∧o=some r:=by
 rcases ZQ k with rfl | hk
 ·exact ⟨rfl,h⟩
 ·rw [hk] at h;cases h
def Zz (x:af PoA) (r:af PoR) (h:YY x=some r):x.2.2.1.1=(5:Int)∧((s_U.F (x.1,x.2.1,())=some (false,())∧s_V.F (ZF x,(1:Int),())=some r)∨(s_U.F (x.1,x.2.1,())=some (true,())∧s_Y.F (ZF x,())=some r)):=by
 unfold YY at h
 obtain ⟨hk,h⟩:=Zy h
 refine ⟨hk,?_⟩
 obtain ⟨⟨b,u⟩,hc,h⟩:=fh.1 h
 cases b with
 | false=>exact .inl ⟨hc,ZH rfl h⟩
 | true=>exact .inr ⟨hc,Zo rfl h⟩
def Z9 {W:World} {Q:Ending→World→Prop} {ds:List Deferred} {args:List Sx.T} {m:M} {k:Value→List Fact→Tree} {C:Cf} {O:Oq} {a:Option Addr} {n c:Nat} (hv:aH args=some [KP C a n c O])
  (h:∀q,W.heap.size≤q→(k (.map (some q)) [bL q (Rn.gU (KP C a n c O))]).aD Tryz.prog W none Q ds):(Tree.call 58 args m k).aD Tryz.prog W none Q ds:=
 ⟨by kernel_rfl,fun β ρ w us hM hr=>by
  rw [aE _ _ _ hv hr]
  refine (Rn.ways C O a n c w).mono ?_
  rintro e w' ⟨q,he,hb,hf⟩
  refine ⟨_,_,he,hb,fun φ hφ g hg=>?_,h q ?_⟩
  ·obtain ⟨h1,h2⟩:=hf φ hφ g hg
   exact ⟨.inr (.inl h1),h2⟩
  ·exact Nat.le_trans hM.below.size (hf _ (.head _) q rfl).1⟩
def ZI {R:Option Addr→List Value→Prop} {c:Den Q_3} {L:Den (.row Q_2)} {o:Den Q_4} {a:Option Addr} {n cc:Nat} (h:fY R (.row Q_2) L (.slice a n cc)) :
  fY R Q_6 (c,((L,(0:Int),()):Den Q_5),o,()) (KP ⟨c.1,c.2.1,c.2.2.1,c.2.2.2.1,c.2.2.2.2.1,c.2.2.2.2.2.1,c.2.2.2.2.2.2.1,c.2.2.2.2.2.2.2.1⟩ a n cc ⟨o.1,o.2.1,o.2.2.1,o.2.2.2.1,o.2.2.2.2.1⟩):=by
 obtain ⟨a',n',c',xs,e,h1⟩:=h
 have e:(Value.slice a n cc)=.slice a' n' c':=by simpa using e
 cases e
 refine ⟨_,rfl,[_,_,_,_,_,_,_,_],_,rfl,⟨[_],_,rfl,rfl,[_],_,rfl,rfl,[_],_,rfl,rfl,[_],_,rfl,rfl,[_],_,rfl,rfl,[_],_,rfl,rfl,[_],_,rfl,rfl,[_],[],rfl,rfl,rfl⟩,[_,_],_,rfl,⟨[_],[_],rfl,⟨a,n,cc,xs,rfl,h1⟩,[_],[],rfl,rfl,rfl⟩,[_,_,_,_,_],[],rfl,⟨[_],_,rfl,rfl,[_],_,rfl,rfl,[_],_,rfl,rfl,[_],_,rfl,rfl,[_],[],rfl,rfl,rfl⟩,rfl⟩
def Z8:s_O.fG.Ok Tryz.prog txn.bA 28:=by
 intro O w x vs hw hp hl
 have hp:(YY x).isSome=true:=hp
 obtain ⟨r,hr⟩:=Option.isSome_iff_exists.1 hp
 obtain ⟨gs,h1,h2⟩:=cn.got hl
 have hN:=(CL (W:=w) h2).VY
 have h1:=cn.mono CA h1
 have hB:∀w',Below w.heap.size w w'→txn.bA w':=fun w' h=>hw.later h
 have hF:s_O.fG.F x=r:=(wO hr).2
 rw [hF]
 have hd:=Zz x r hr
 clear hF hp hr
 obtain ⟨c,L,o,u⟩:=x
 obtain ⟨y1,us1,rfl,k1,y2,us2,rfl,k2,y3,us3,rfl,k3,k4⟩:=h1
 have k4:us3=[]:=k4
 subst k4
 obtain ⟨sl,e1,e2⟩:=iM k1
 obtain rfl:sl=[]:=List.eq_nil_of_length_eq_zero e1
 obtain ⟨sl,e3,e4⟩:=iM k3
 obtain rfl:sl=[]:=List.eq_nil_of_length_eq_zero e3
 have k2':=k2
 obtain ⟨a,n,cc,xs,e5,q2⟩:=k2
 have e5:y2=.slice a n cc:=by simpa using e5
 subst e2 e4 e5
 obtain ⟨g1,g2,g3,g4,g5,g6,g7,g8,u4⟩:=c
 obtain ⟨ok,os,on,og,od,u5⟩:=o
 obtain ⟨r1,⟨re,⟨ts,tn,tt,tc,tg,td,v1⟩,tx,rn,v2⟩,r3,v3⟩:=r
 have hA:=ZI (c:=(g1,g2,g3,g4,g5,g6,g7,g8,u4)) (o:=(ok,os,on,og,od,u5)) k2'
 obtain ⟨hk,hd⟩:=hd
 have hk:@Eq Int ok 5:=hk
 subst hk
 refine au gI.aq.keeps.a0f Tryz.func28 rfl [(2,(Zw [0,2,3,1,4,5,6,7,8,9] [4],[]))] (aQ _ _ (by kernel_rfl)) (gm::gs) (fun φ hφ g hg=>by
  rcases List.mem_cons.1 hφ with rfl | hφ
  ·cases hg
  ·obtain ⟨a,ys,rfl,h3,h4⟩:=h2 φ hφ;exact h3 g hg) ?_
 conv=>arg 5;whnf
 refine Z9 (C:=⟨g1,g2,g3,g4,g5,g6,g7,g8⟩) (O:=⟨5,os,on,og,od⟩) (a:=a) (n:=n) (c:=cc) rfl (fun q hq=>?_)
 conv=>arg 5;whnf
 refine ct (z:=.nilFunc) (l:=Rn.gU (KP ⟨g1,g2,g3,g4,g5,g6,g7,g8⟩ a n cc ⟨5,os,on,og,od⟩)) Tryz.underlying127 Tryz.underlying3 (fun w=>by kernel_rfl) (.head _) ?_
 rcases hd with ⟨hc,hr⟩ | ⟨hc,hm⟩
 ·skip
  as_aux_lemma=>
   conv=>arg 5;whnf
   refine wu (S:=s_U) hc (vM (by kernel_rfl)) hB (ow hq _ hN) ⟨_,_,rfl,k1.mono fun a xs h=>h.mono fun φ hφ=>List.Mem.tail _ hφ,_,_,rfl,k2'.mono fun a xs h=>h.mono fun φ hφ=>List.Mem.tail _ hφ,rfl⟩ rfl (fun us gs1 hu hN1=>?_)
   obtain ⟨y,us,rfl,q1,q3⟩:=hu
   have q1:y=.bool false:=q1
   have q3:us=[]:=q3
   subst q1 q3
   conv=>arg 5;whnf
   refine wu (S:=s_V) hr (vM (by kernel_rfl)) hB (hN1.app (ow hq _ hN)) ⟨_,_,rfl,hA.mono fun a xs h=>h.mono fun φ hφ=>List.mem_append_right (gm::gs1) (List.Mem.tail _ hφ),_,_,rfl,rfl,rfl⟩ rfl (fun us gs2 hu hN2=>?_)
   obtain ⟨y1,us,rfl,q4,y2,us,rfl,q5,y3,us,rfl,q6,q7⟩:=hu
   have q7:us=[]:=q7
   subst q7
   obtain ⟨sl,e5,e6⟩:=iM q5
   obtain ⟨⟨b1,m1,d1⟩,rfl⟩:=List.length_eq_one_iff.1 (show sl.length=1 from e5)
   have q4':=q4
   have q6':=q6
   obtain ⟨b4,m4,d4,xs4,e7,_⟩:=q4'
   obtain ⟨b5,m5,d5,xs5,e8,_⟩:=q6'
   have e7:y1=.slice b4 m4 d4:=by simpa using e7
   have e8:y3=.slice b5 m5 d5:=by simpa using e8
   subst e6 e7 e8
   conv=>arg 5;whnf
   exact av fun β ρ w' hM'=>⟨[_,_,_],rfl,hM'.below,C5 hM' (hN2.app (hN1.app (ow hq _ hN))) ⟨_,_,rfl,q4.mono fun a xs h=>h.mono fun φ hφ=>List.mem_append_left _ hφ,_,_,rfl,q5.mono fun a xs h=>h.mono fun φ hφ=>List.mem_append_left _ hφ,_,_,rfl,q6.mono fun a xs h=>h.mono fun φ hφ=>List.mem_append_left _ hφ,rfl⟩⟩
 ·skip
  as_aux_lemma=>
   conv=>arg 5;whnf
   refine wu (S:=s_U) hc (vM (by kernel_rfl)) hB (ow hq _ hN) ⟨_,_,rfl,k1.mono fun a xs h=>h.mono fun φ hφ=>List.Mem.tail _ hφ,_,_,rfl,k2'.mono fun a xs h=>h.mono fun φ hφ=>List.Mem.tail _ hφ,rfl⟩ rfl (fun us gs1 hu hN1=>?_)
   obtain ⟨y,us,rfl,q1,q3⟩:=hu
   have q1:y=.bool true:=q1
   have q3:us=[]:=q3
   subst q1 q3
   conv=>arg 5;whnf
   refine opE (N:=O) hm (vM (by kernel_rfl)) rfl rfl rfl hB (hN1.app (ow hq _ hN)) ⟨_,_,rfl,hA.mono fun a xs h=>h.mono fun φ hφ=>List.mem_append_right (gm::gs1) (List.Mem.tail _ hφ),rfl⟩ (fun us gs2 hu hN2=>?_)
   obtain ⟨y1,us,rfl,q4,y2,us,rfl,q5,y3,us,rfl,q6,q7⟩:=hu
   have q7:us=[]:=q7
   subst q7
   obtain ⟨sl,e5,e6⟩:=iM q5
   obtain ⟨⟨b1,m1,d1⟩,rfl⟩:=List.length_eq_one_iff.1 (show sl.length=1 from e5)
   have q4':=q4
   have q6':=q6
   obtain ⟨b4,m4,d4,xs4,e7,_⟩:=q4'
   obtain ⟨b5,m5,d5,xs5,e8,_⟩:=q6'
   have e7:y1=.slice b4 m4 d4:=by simpa using e7
   have e8:y3=.slice b5 m5 d5:=by simpa using e8
   subst e6 e7 e8
   conv=>arg 5;whnf
   exact av fun β ρ w' hM'=>⟨[_,_,_],rfl,hM'.below,C5 hM' (hN2.app (hN1.app (ow hq _ hN))) ⟨_,_,rfl,q4.mono fun a xs h=>h.mono fun φ hφ=>List.mem_append_left _ hφ,_,_,rfl,q5.mono fun a xs h=>h.mono fun φ hφ=>List.mem_append_left _ hφ,_,_,rfl,q6.mono fun a xs h=>h.mono fun φ hφ=>List.mem_append_left _ hφ,rfl⟩⟩
def tI:EE:={ tC with sm:=(28,s_O)::tC.sm }
def a06:tI.gM.nq gI.env Tryz.prog txn.bA EN:=EE.cP a08 (by kernel_rfl) (S:=s_O) Z8
end Go.Proofs.YtdbjakibneeeiaaGreatDoor.Ex

namespace Go.Proofs.YtdbjakibneeeiaaGreatDoor.queue
open Go.RowKit Sx txn
def Zp:H8.fG.Ok Tryz.prog bA 33:=by
 intro O w x vs hw hp hl
 obtain ⟨t,u⟩:=x
 obtain ⟨y,us,rfl,h1,h3⟩:=hl
 have h1:=J4 h1
 have h3:us=[]:=h3
 subst h1 h3
 have hp:(bif decide ((cz t).d.size≤maxLen) then some ((⟨(fH (cz t)).toArray⟩,(cz t).ok,()):af [.str,.bool]) else none).isSome=true:=hp
 cases hd:decide ((cz t).d.size≤maxLen) with
 | false=>rw [hd] at hp;cases hp
 | true=>
  have hF:H8.fG.F (t,u)=(⟨(fH (cz t)).toArray⟩,(cz t).ok,()):=by
   show (bif decide ((cz t).d.size≤maxLen) then some ((⟨(fH (cz t)).toArray⟩,(cz t).ok,()):af [.str,.bool]) else none).getD _=_
   rw [hd];rfl
  refine (Ib (cz t) w (of_decide_eq_true hd)).mono ?_
  rintro e w' ⟨rfl,hb⟩
  refine ⟨[_,_],rfl,hb,?_⟩
  rw [hF]
  exact ⟨_,_,rfl,rfl,_,_,rfl,rfl,rfl⟩
end Go.Proofs.YtdbjakibneeeiaaGreatDoor.queue
namespace Go.Proofs.YtdbjakibneeeiaaGreatDoor.Ex.d
open Go.RowKit Sx
@[irreducible] def IZ (x:af [z0]):Option (af [.str,.bool]):=(queue.H8:bI).F x
def Tv:bI:=⟨[z0],[.str,.bool],IZ⟩
def s_W:Tv=(queue.H8:bI):=congrArg (bI.mk _ _) (funext fun x=>by unfold IZ;rfl)
def SZ:EE:={ tI with sm:=(33,Tv)::tI.sm }
def SY:SZ.gM.nq gI.env Tryz.prog txn.bA EN:=EE.cP a06 (by kernel_rfl) (S:=Tv) (by rw [s_W];exact queue.Zp)
def h_12:FH:=⟨[],[],[],[]⟩
@[irreducible] def YT (x:af [z0]):Option (af [.int]):=Tr Tryz.prog EN SZ h_12 180 [z0] [.int] x
def s_P:bI:=⟨[z0],[.int],YT⟩
def Z3:EE:={ SZ with sm:=(180,s_P)::SZ.sm }
def ZR:Z3.gM.nq gI.env Tryz.prog txn.bA EN:=EE.xT SY rfl hB (by kernel_rfl) (H:=h_12) (congrArg (bI.mk _ _) (funext fun x=>by unfold YT;rfl))
def h_13:FH:=⟨[],[(3,⟨[],0,⟨[.any,.p 0 0,.any,.d .int,.d .int]++an 16 [],[some ([.d z1],90)],[]⟩,[(.exit 0,⟨an 3 ([.d .int]++an 17 []),[],[]⟩)]⟩)],[],[]⟩
@[irreducible] def YV (x:af [z1]):Option (af [.int]):=Tr Tryz.prog EN Z3 h_13 147 [z1] [.int] x
def s_Q:bI:=⟨[z1],[.int],YV⟩
def Z4:EE:={ Z3 with sm:=(147,s_Q)::Z3.sm }
def ZP:Z4.gM.nq gI.env Tryz.prog txn.bA EN:=EE.xT ZR rfl hB (by kernel_rfl) (H:=h_13) (congrArg (bI.mk _ _) (funext fun x=>by unfold YV;rfl))
def h_14:FH:=⟨[],[(3,⟨[],0,⟨[.any,.p 0 0,.any,.d .int,.d .int]++an 16 [],[some ([.d z4],84)],[]⟩,[(.exit 0,⟨an 3 ([.d .int]++an 17 []),[],[]⟩)]⟩)],[],[]⟩
@[irreducible] def Z0 (x:af [z4]):Option (af [.int]):=Tr Tryz.prog EN Z4 h_14 107 [z4] [.int] x
def s_R:bI:=⟨[z4],[.int],Z0⟩
def Z5:EE:={ Z4 with sm:=(107,s_R)::Z4.sm }
def ZV:Z5.gM.nq gI.env Tryz.prog txn.bA EN:=EE.xT ZP rfl hB (by kernel_rfl) (H:=h_14) (congrArg (bI.mk _ _) (funext fun x=>by unfold Z0;rfl))
def h_15:FH:=⟨[],[],[],[]⟩
@[irreducible] def YQ (x:af [(.row z1)]):Option (af [.int]):=Tr Tryz.prog EN Z5 h_15 61 [(.row z1)] [.int] x
def s_S:bI:=⟨[(.row z1)],[.int],YQ⟩
def Z1:EE:={ Z5 with sm:=(61,s_S)::Z5.sm }
def ZN:Z1.gM.nq gI.env Tryz.prog txn.bA EN:=EE.xT ZV rfl hB (by kernel_rfl) (H:=h_15) (congrArg (bI.mk _ _) (funext fun x=>by unfold YQ;rfl))
def h_16:FH:=⟨[(1,(line [0,1,2,3,4,6,7,5,8,9],[])),(6,(line [0,1,2,3,4,5,6,7,8,9,10,11,12,13,14,15,16,17,18,19,20,21,22,23,24,25,26,27,28,29,30,31,32,33,34,35,36,37,38,39,40,41,42],[]))],[(4,⟨[],0,⟨[.any,.d (.row z1),.p 0 0,.any,.any,.d .int]++an 59 [],[some ([.d z2],34)],[]⟩,[(.ret,⟨an 4 ([.d .bool]++an 60 []),[],[]⟩),(.exit 0,⟨an 65 [],[],[]⟩)]⟩)],[],[]⟩
@[irreducible] def YM (x:af [z2,(.row z1)]):Option (af [.bool]):=Tr Tryz.prog EN Z1 h_16 29 [z2,(.row z1)] [.bool] x
def s_T:bI:=⟨[z2,(.row z1)],[.bool],YM⟩
def Yx:EE:={ Z1 with sm:=(29,s_T)::Z1.sm }
def ZT:Yx.gM.nq gI.env Tryz.prog txn.bA EN:=EE.xT ZN rfl hB (by kernel_rfl) (H:=h_16) (congrArg (bI.mk _ _) (funext fun x=>by unfold YM;rfl))
end Go.Proofs.YtdbjakibneeeiaaGreatDoor.Ex.d
namespace Go.Proofs.YtdbjakibneeeiaaGreatDoor.Ex.d
open Go.RowKit Sx
def a0Q (x:(Y2×((List Y1)×Unit))):YM x =
 xb (Fg (x.1,())) (fun (y0:(Bool×Unit))=>az ((!y0.1)==false) (xb (YQ x.2) (fun (y1:(Int×Unit))=>az (decide (y1.1>x.1.2.2.1)) (some (false,())) (xb (b6 (S:=(Y4×(((Y2×Unit)×Unit)×Unit))) (R:=(((Bool×Unit)×(Unit×Unit)) ⊕ ((Unit×(Unit×Unit)) ⊕ Empty))) (fun (s2:(Y4×(((Y2×Unit)×Unit)×Unit)))=>az (decide (s2.1.2.1<(((List.length s2.1.1):Nat):Int))) (gd (di s2.1.2.1 (List.length s2.1.1)) (gd (decide ((Int.toNat s2.1.2.1)<(List.length s2.1.1))) (xb (MH ((List.getD s2.1.1 (Int.toNat s2.1.2.1) ((0:Int),((0:Int),([],())))),(s2.2.1.1.1.2.2.2.1,()))) (fun (y3:(Bool×Unit))=>az ((!y3.1)==false) (gd (di s2.1.2.1 (List.length s2.1.1)) (gd (decide ((Int.toNat s2.1.2.1)<(List.length s2.1.1))) (az (((List.getD s2.1.1 (Int.toNat s2.1.2.1) ((0:Int),((0:Int),([],())))).2.1==(0:Int))==true) (gd (di s2.1.2.1 (List.length s2.1.1)) (gd (decide ((Int.toNat s2.1.2.1)<(List.length s2.1.1))) (az (((((List.length (List.getD s2.1.1 (Int.toNat s2.1.2.1) ((0:Int),((0:Int),([],())))).2.2.1):Nat):Int)==(0:Int))==false) (az ((decide (s2.1.2.1>(0:Int)))==true) (gd (dx (s2.1.2.1 - (1:Int))) (gd (di (s2.1.2.1 - (1:Int)) (List.length s2.1.1)) (gd (decide ((Int.toNat (s2.1.2.1 - (1:Int)))<(List.length s2.1.1))) (gd (di s2.1.2.1 (List.length s2.1.1)) (gd (decide ((Int.toNat s2.1.2.1)<(List.length s2.1.1))) (az (decide ((List.getD s2.1.1 (Int.toNat (s2.1.2.1 - (1:Int))) ((0:Int),((0:Int),([],())))).1≥(List.getD s2.1.1 (Int.toNat s2.1.2.1) ((0:Int),((0:Int),([],())))).1)) (some (.inr (.inl ((false,()),((),()))))) (gd (dx (s2.1.2.1+(1:Int))) (some (.inl ((s2.1.1,((s2.1.2.1+(1:Int)),())),s2.2)))))))))) (gd (dx (s2.1.2.1+(1:Int))) (some (.inl ((s2.1.1,((s2.1.2.1+(1:Int)),())),s2.2))))) (some (.inr (.inl ((false,()),((),())))))))) (az ((decide (s2.1.2.1>(0:Int)))==true) (gd (dx (s2.1.2.1 - (1:Int))) (gd (di (s2.1.2.1 - (1:Int)) (List.length s2.1.1)) (gd (decide ((Int.toNat (s2.1.2.1 - (1:Int)))<(List.length s2.1.1))) (gd (di s2.1.2.1 (List.length s2.1.1)) (gd (decide ((Int.toNat s2.1.2.1)<(List.length s2.1.1))) (az (decide ((List.getD s2.1.1 (Int.toNat (s2.1.2.1 - (1:Int))) ((0:Int),((0:Int),([],())))).1≥(List.getD s2.1.1 (Int.toNat s2.1.2.1) ((0:Int),((0:Int),([],())))).1)) (some (.inr (.inl ((false,()),((),()))))) (gd (dx (s2.1.2.1+(1:Int))) (some (.inl ((s2.1.1,((s2.1.2.1+(1:Int)),())),s2.2)))))))))) (gd (dx (s2.1.2.1+(1:Int))) (some (.inl ((s2.1.1,((s2.1.2.1+(1:Int)),())),s2.2)))))))) (some (.inr (.inl ((false,()),((),()))))))))) (some (.inr (.inr (.inl ((),((),()))))))) bn ((x.2.1,((0:Int),())),(((x.1,()),()),()))) (fun (y4:(((Bool×Unit)×(Unit×Unit)) ⊕ ((Unit×(Unit×Unit)) ⊕ Empty)))=>xs y4 (fun (y5:((Bool×Unit)×(Unit×Unit)))=>some y5.1) (fun (y6:((Unit×(Unit×Unit)) ⊕ Empty))=>xs y6 (fun (y7:(Unit×(Unit×Unit)))=>some (true,())) (fun (y8:Empty)=>xe y8)))))) (some (false,()))):=by kernel_rfl
def a0m (x:((List Y1)×Unit)):YQ x =
 xb (Z0 ((x.1,((0:Int),())),())) (fun (y0:(Int×Unit))=>some y0):=by kernel_rfl
def a0L (x:(Y4×Unit)):Z0 x =
 xb (b6 (S:=(Y3×(((Y4×Unit)×Unit)×Unit))) (R:=(((Int×Unit)×(Unit×Unit)) ⊕ Empty)) (fun (s0:(Y3×(((Y4×Unit)×Unit)×Unit)))=>az (decide (s0.1.2.1<(((List.length s0.2.1.1.1.1):Nat):Int))) (gd (di s0.1.2.1 (List.length s0.2.1.1.1.1)) (gd (decide ((Int.toNat s0.1.2.1)<(List.length s0.2.1.1.1.1))) (xb (YV ((List.getD s0.2.1.1.1.1 (Int.toNat s0.1.2.1) ((0:Int),((0:Int),([],())))),())) (fun (y1:(Int×Unit))=>gd (dx (s0.1.1+y1.1)) (gd (dx (s0.1.2.1+(1:Int))) (some (.inl (((s0.1.1+y1.1),((s0.1.2.1+(1:Int)),())),s0.2)))))))) (some (.inr (.inl ((s0.1.1,()),((),())))))) bn (((0:Int),((0:Int),())),((x,()),()))) (fun (y2:(((Int×Unit)×(Unit×Unit)) ⊕ Empty))=>xs y2 (fun (y3:((Int×Unit)×(Unit×Unit)))=>some y3.1) (fun (y4:Empty)=>xe y4)):=by kernel_rfl
def a0H (x:(Y1×Unit)):YV x =
 xb (b6 (S:=(Y3×(((Y1×Unit)×Unit)×Unit))) (R:=(((Int×Unit)×(Unit×Unit)) ⊕ Empty)) (fun (s0:(Y3×(((Y1×Unit)×Unit)×Unit)))=>az (decide (s0.1.2.1<(((List.length s0.2.1.1.1.2.2.1):Nat):Int))) (gd (di s0.1.2.1 (List.length s0.2.1.1.1.2.2.1)) (gd (decide ((Int.toNat s0.1.2.1)<(List.length s0.2.1.1.1.2.2.1))) (xb (YT ((List.getD s0.2.1.1.1.2.2.1 (Int.toNat s0.1.2.1) ((0:Int),((0:Int),((0:Int),((0:Int),((0:Int),(ByteArray.empty,()))))))),())) (fun (y1:(Int×Unit))=>gd (dx (s0.1.1+y1.1)) (gd (dx (s0.1.2.1+(1:Int))) (some (.inl (((s0.1.1+y1.1),((s0.1.2.1+(1:Int)),())),s0.2)))))))) (some (.inr (.inl ((s0.1.1,()),((),())))))) bn (((0:Int),((0:Int),())),((x,()),()))) (fun (y2:(((Int×Unit)×(Unit×Unit)) ⊕ Empty))=>xs y2 (fun (y3:((Int×Unit)×(Unit×Unit)))=>some y3.1) (fun (y4:Empty)=>xe y4)):=by kernel_rfl
def a0J (x:(Y0×Unit)):YT x =
 xb (IZ x) (fun (y0:(ByteArray×(Bool×Unit)))=>az (!y0.2.1) (some ((0:Int),())) (xb (Zf ((((ByteArray.size y0.1):Nat):Int),())) (fun (y1:(Int×Unit))=>some y1))):=by kernel_rfl
end Go.Proofs.YtdbjakibneeeiaaGreatDoor.Ex.d
namespace Go.Proofs.YtdbjakibneeeiaaGreatDoor.Ex
open Go.RowKit Sx
def a1l {w:Int} {v0:cU} {s0:P_2} {T b:Nat} (hv:kL b v0) (hs:xW s0) (hb:b+T≤900) (hT:de (gF T v0 w s0).1 w (gF T v0 w s0).2=false) :
  rK (v0,w,s0,(10000:Int),())=some ((gF T v0 w s0).1,(gF T v0 w s0).2,()):=by
 have A:A5 w 10000 (fun _ v s=>∃j,j≤T∧(v,s)=gF j v0 w s0∧kL (b+j) v∧xW s):=by
  refine ⟨fun {k v s} ⟨j,h1,_,h2,h3⟩=>⟨h2.mono (by omega),h3⟩,fun {k v s} hk ⟨j,h1,h2,h3,h4⟩ hab hm hw hp=>?_⟩
  obtain ⟨e,_⟩:=kz v w s h4.cl
  obtain ⟨_,h5,h6,_⟩:=step_eq v w s (n:=b+j) (by omega) h3 h4 (e.trans (by rw [hab])) hm hw hp
  have hne:j≠T:=fun c=>by
   subst c
   rw [← h2] at hT
   have hT:de v w s=false:=hT
   rw [hab] at hT;cases hT
  refine ⟨j+1,by omega,?_,h5,h6⟩
  rw [a1i w 1 j v0 s0,← h2]
  show _=(bif de v w s then gF 0 (aB v w s).1 w (aB v w s).2.1 else (v,s))
  rw [hab];rfl
 have hN:cZ 10000=10000:=by unfold cZ;rw [if_neg (by decide)];rfl
 have e:=zS A v0 s0 10000 (by rw [hN];exact Nat.le_refl _) ⟨0,Nat.zero_le _,rfl,hv,hs⟩
 have e2:gF (cZ 10000) v0 w s0=gF T v0 w s0:=by
  have h:cZ 10000=T+(10000 - T):=by rw [hN];omega
  rw [h,a1i,vh hT]
 rw [e2] at e
 exact e
section
variable {g w : Int} {s : P_2}
def a1j {v:cU} {v':cU} {s':P_2} (h:de v w s=true) (h1:(aB v w s).1=v') (h2:(aB v w s).2.1=s') (m:Nat):gF (1+m) v w s=gF m v' w s':=by
 rw [Nat.add_comm]
 show (bif de v w s then gF m (aB v w s).1 w (aB v w s).2.1 else (v,s))=_
 rw [h,h1,h2];rfl
def a1k {tr:Int} {a:Nat} (hs:xW s) (hp:IM s) (hw:1≤w) (ha:a<List.length s.2.1) (hz:∀k,k<a→GA s.2.1 k=0) (hh:GA s.2.1 a≠0) (m:Nat) :
  gF (a+1+m) (Yy g 0 0 tr [] []) w s=gF m (dn (Yy g 0 a tr (qi s a) [])) w s:=by
 have hc:((List.length s.2.1:Nat):Int)=s.1.1:=hp.may.1
 have:=Zc (w:=w) (fun k=>Yy g 0 k tr (qi s k) []) (fun _=>s) a (1+m) 0 (fun k h1 h2=>by
  obtain ⟨q1,q2⟩:=Zl (g:=g) (tr:=tr) (k:=k) hs hp hw (by omega) (hz k (by omega))
  refine ⟨q1,?_,by rw [q2]⟩
  rw [q2]
  show cm (Yy g 0 k tr (qi s (k+1)) []) s.1.1=_
  rw [Zs,if_neg (by omega)];rfl)
 rw [Nat.zero_add] at this
 have e:a+1+m=a+(1+m):=by omega
 rw [e]
 refine Eq.trans this ?_
 obtain ⟨q1,q2⟩:=a1o (g:=g) (tr:=tr) (k:=a) hs hp hw ha hh
 exact a1j q1 (by rw [q2]) (by rw [q2]) m
def a1C (a:Nat) (vs:List Int):dn (Yy g 0 a 0 vs [])=Yy g 0 0 1 [] []:=by
 rcases tf (Yy g 0 a 0 vs []) (Int.le_refl _) (show (0:Int)≤2 by decide) with ⟨h,e⟩ | ⟨h,e⟩
 ·have h:(2:Int)≤0+1:=h
  omega
 ·exact e
def a1B (a:Nat) (vs:List Int):dn (Yy g 0 a 1 vs [])=Yy g 3 0 2 [] []:=by
 rcases tf (Yy g 0 a 1 vs []) (show (0:Int)≤1 by decide) (show (1:Int)≤2 by decide) with ⟨h,e⟩ | ⟨h,e⟩
 ·exact e
 ·have h:(1:Int)+1<2:=h
  omega
def a1s {H:List Int} {n a:Nat} (hs:xW s) (hp:IM s) (hw:1≤w) (hn:List.length s.2.1=n) (hH:H.length=n) (h0:∀i,i<n→0≤H.getD i 0) (ha:a<n) (hz:∀i,i<a→H.getD i 0=0) (hh:H.getD a 0≠0) :
  gF ((a+1)+((a+1)+(a - 0+0))) (EM g) w (a1q s H)=(Yy g 3 a 2 [] [],a1q s (a1p (List.replicate n w) H a))∧de (Yy g 3 a 2 [] []) w (a1q s (a1p (List.replicate n w) H a))=false:=by
 have hX:(List.replicate n w).length=n:=List.length_replicate
 have x0:∀i,i<n→0≤(List.replicate n w).getD i 0:=fun i hi=>by rw [a0Z hi];omega
 have hS:=a19 hs (L:=H) (by rw [hH,hn])
 have hP:IM (a1q s H):=hp.a1t (by rw [hH,hn]) fun i hi=>h0 i (by omega)
 have hl:a<List.length (a1q s H).2.1:=by show a<H.length;omega
 constructor
 ·have e1:EM g=Yy g 0 0 0 [] []:=rfl
  rw [e1,a1k hS hP hw hl hz hh,a1C,a1k hS hP hw hl hz hh,a1B]
  have:=a1r (g:=g) (w:=w) hs hp hw hn hH h0 (Nat.zero_le a) (Nat.le_of_lt ha) (fun i _ h=>hz i h) ha (m:=0)
  rw [a1u] at this
  exact this
 ·cases hb:de (Yy g 3 a 2 [] []) w (a1q s (a1p (List.replicate n w) H a)) with
  | false=>rfl
  | true=>
   have hS2:=a19 hs (L:=a1p (List.replicate n w) H a) (by rw [a1G hX hH (by omega),hn])
   obtain ⟨_,_,h⟩:=(YD _ w _ hS2.cl).1 hb
   have hf:bT (a1p (List.replicate n w) H a) (a:Int)=true:=by
    rcases h with ⟨h,_⟩ | ⟨h,_⟩ | ⟨h,_⟩ | ⟨_,h⟩ | ⟨h,_⟩ | ⟨h,_⟩
    ·exact absurd h (show ¬ (3:Int)=0 by decide)
    ·exact absurd h (show ¬ (3:Int)=1 by decide)
    ·exact absurd h (show ¬ (3:Int)=2 by decide)
    ·exact h
    ·exact absurd h (show ¬ (3:Int)=4 by decide)
    ·exact absurd h (show ¬ (3:Int)=5 by decide)
   have f2:=(Bool.and_eq_true_iff.1 hf).2
   rw [Int.toNat_natCast] at f2
   have f2:(a1p (List.replicate n w) H a).getD a 0=0:=eq_of_beq (α:=Int) f2
   rw [a17 hX (by omega) (Nat.le_refl _)] at f2
   exact absurd f2 hh
def eT (g ph at_:Int) (r:T8):cU:=(g,ph,at_,2,[],[],r,())
def a1F (g ph k:Int) (r:T8) (n:Int):cm (eT g ph k r) n=if k+1=n then eT g (ph+1) 0 r else eT g ph (k+1) r:=by
 by_cases h:k+1=n
 ·rw [if_pos h];exact ZZ h
 ·rw [if_neg h];exact ZX h
def a1y {n a:Nat} (hs:xW s) (hp:IM s) (hw:1≤w) (hn:List.length s.2.1=n) (ha:a<n) :
  gF ((n - a)+(1+((n - 0)+0))) (Yy g 3 a 2 [] []) w (a1q s (a1p (List.replicate n w) (List.replicate n 0) a))=(eT g 6 0 (nD s.2.2.2.1 g),a1q s (List.replicate n 0))∧de (eT g 6 0 (nD s.2.2.2.1 g)) w (a1q s (List.replicate n 0))=false:=by
 have hX:(List.replicate n w).length=n:=List.length_replicate
 have hZ:(List.replicate n (0:Int)).length=n:=List.length_replicate
 have x0:∀i,i<n→0≤(List.replicate n w).getD i 0:=fun i hi=>by rw [a0Z hi];omega
 have z0:∀i,i<n→0≤(List.replicate n (0:Int)).getD i 0:=fun i hi=>by rw [a0Z hi];omega
 have hc:((n:Nat):Int)=s.1.1:=by rw [← hn];exact hp.may.1
 have r1:=YI (w:=w) n (by omega) (fun k=>Yy g 3 k 2 [] []) (fun k=>a1q s (a1p (List.replicate n w) (List.replicate n 0) k)) (Yy g 4 0 2 [] []) a (1+((n - 0)+0)) ha (fun k h1 hk=>by
  have hS:=a19 hs (L:=a1p (List.replicate n w) (List.replicate n 0) k) (by rw [a1G hX hZ (by omega),hn])
  have hP:=a1h hp (k:=k) hn hX hZ (by omega) x0 z0
  have hf:bT (a1p (List.replicate n w) (List.replicate n 0) k) (k:Int)=true:=by
   unfold bT
   rw [dA.2 ⟨by omega,by rw [a1G hX hZ (by omega)];omega⟩,Bool.true_and,Int.toNat_natCast,a17 hX (by omega) (Nat.le_refl _),a0Z hk];rfl
  refine ⟨(YD _ w _ hS.cl).2 ⟨hw,hP,.inr (.inr (.inr (.inl ⟨rfl,hf⟩)))⟩,?_,?_⟩
  ·have e:(aB (Yy g 3 k 2 [] []) w (a1q s (a1p (List.replicate n w) (List.replicate n 0) k))).1=cm (Yy g 3 k 2 [] []) s.1.1:=rfl
   rw [e,Zs,YK hc]
   by_cases c:k+1=n
   ·rw [if_pos c,if_pos c];rfl
   ·rw [if_neg c,if_neg c];rfl
  ·have e:(aB (Yy g 3 k 2 [] []) w (a1q s (a1p (List.replicate n w) (List.replicate n 0) k))).2.1=a1q s ((a1p (List.replicate n w) (List.replicate n 0) k).set (k:Int).toNat w):=rfl
   rw [e,Int.toNat_natCast,a1b hX hZ hk (a0Z hk)])
 have hW:a1p (List.replicate n w) (List.replicate n 0) n=List.replicate n w:=a1A hX hZ
 have hSW:=a19 hs (L:=List.replicate n w) (by rw [hX,hn])
 have hPW:IM (a1q s (List.replicate n w)):=hp.a1t (by rw [hX,hn]) fun i hi=>x0 i (by omega)
 have r2:gF (1+((n - 0)+0)) (Yy g 4 0 2 [] []) w (a1q s (List.replicate n w))=gF ((n - 0)+0) (eT g 5 (0:Nat) (nD s.2.2.2.1 g)) w (a1q s (List.replicate n w)):=by
  refine a1j ((YD _ w _ hSW.cl).2 ⟨hw,hPW,.inr (.inr (.inr (.inr (.inl ⟨rfl,fun k hk=>?_⟩))))⟩) rfl rfl _
  have hk:k<(List.replicate n w).length:=hk
  show (decide (w≥1)&&((List.replicate n w).getD (k:Int).toNat 0==w))=true
  rw [Int.toNat_natCast,a0Z (by omega),decide_eq_true (by omega)];simp
 have r3:=YI (w:=w) n (by omega) (fun k=>eT g 5 k (nD s.2.2.2.1 g)) (fun k=>a1q s (a1p (List.replicate n 0) (List.replicate n w) k)) (eT g 6 0 (nD s.2.2.2.1 g)) 0 0 (by omega) (fun k h1 hk=>by
  have hS:=a19 hs (L:=a1p (List.replicate n 0) (List.replicate n w) k) (by rw [a1G hZ hX (by omega),hn])
  have hP:=a1h hp (k:=k) hn hZ hX (by omega) z0 x0
  have hf:aM (a1p (List.replicate n 0) (List.replicate n w) k) (k:Int) w=true:=by
   show (decide (w≥1)&&((a1p (List.replicate n 0) (List.replicate n w) k).getD (k:Int).toNat 0==w))=true
   rw [Int.toNat_natCast,a17 hZ (by omega) (Nat.le_refl _),a0Z hk,decide_eq_true (by omega)];simp
  refine ⟨(YD _ w _ hS.cl).2 ⟨hw,hP,.inr (.inr (.inr (.inr (.inr ⟨rfl,⟨by show (0:Int)≤(k:Int);omega,by show (k:Int)<((a1p (List.replicate n 0) (List.replicate n w) k).length:Int);rw [a1G hZ hX (by omega)];omega⟩,hf⟩))))⟩,?_,?_⟩
  ·have e:(aB (eT g 5 k (nD s.2.2.2.1 g)) w (a1q s (a1p (List.replicate n 0) (List.replicate n w) k))).1=cm (eT g 5 k (nD s.2.2.2.1 g)) s.1.1:=rfl
   rw [e,a1F,YK hc]
   by_cases c:k+1=n
   ·rw [if_pos c,if_pos c];rfl
   ·rw [if_neg c,if_neg c];rfl
  ·have e:(aB (eT g 5 k (nD s.2.2.2.1 g)) w (a1q s (a1p (List.replicate n 0) (List.replicate n w) k))).2.1=a1q s ((a1p (List.replicate n 0) (List.replicate n w) k).set (k:Int).toNat 0):=rfl
   rw [e,Int.toNat_natCast,a1b hZ hX hk (a0Z hk)])
 constructor
 ·refine r1.trans ?_
  rw [hW]
  refine r2.trans ?_
  rw [a1u,a1A hZ hX] at r3
  exact r3
 ·cases hb:de (eT g 6 0 (nD s.2.2.2.1 g)) w (a1q s (List.replicate n 0)) with
  | false=>rfl
  | true=>
   have hS2:=a19 hs (L:=List.replicate n 0) (by rw [hZ,hn])
   obtain ⟨_,_,h⟩:=(YD _ w _ hS2.cl).1 hb
   rcases h with ⟨h,_⟩ | ⟨h,_⟩ | ⟨h,_⟩ | ⟨h,_⟩ | ⟨h,_⟩ | ⟨h,_⟩
   ·exact absurd h (show ¬ (6:Int)=0 by decide)
   ·exact absurd h (show ¬ (6:Int)=1 by decide)
   ·exact absurd h (show ¬ (6:Int)=2 by decide)
   ·exact absurd h (show ¬ (6:Int)=3 by decide)
   ·exact absurd h (show ¬ (6:Int)=4 by decide)
   ·exact absurd h (show ¬ (6:Int)=5 by decide)
end
end Go.Proofs.YtdbjakibneeeiaaGreatDoor.Ex
namespace Go.Proofs.YtdbjakibneeeiaaGreatDoor.Ex.d
open Go.RowKit Sx
def a1D:FH:=⟨[(9,(p9 [0,2,3,4] (.fork3 1 (.fork3 5 (.fork3 6 (p9 [7,8,9] (.fork 10 (aK [11] [12,13]) 11 (aK [10] [12,13]))) 10 (.fork 6 (aK [7,8,9,11] [12,13]) 11 (aK [6,7,8,9] [12,13])) 11 (.fork 6 (aK [7,8,9,10] [12,13]) 10 (aK [6,7,8,9] [12,13]))) 10 (.fork 5 (.fork 6 (aK [7,8,9,11] [12,13]) 11 (aK [6,7,8,9] [12,13])) 11 (aK [5,6,7,8,9] [12,13])) 11 (.fork 5 (.fork 6 (aK [7,8,9,10] [12,13]) 10 (aK [6,7,8,9] [12,13])) 10 (aK [5,6,7,8,9] [12,13]))) 10 (.fork 1 (.fork 5 (.fork 6 (aK [7,8,9,11] [12,13]) 11 (aK [6,7,8,9] [12,13])) 11 (aK [5,6,7,8,9] [12,13])) 11 (aK [1,5,6,7,8,9] [12,13])) 11 (.fork 1 (.fork 5 (.fork 6 (aK [7,8,9,10] [12,13]) 10 (aK [6,7,8,9] [12,13])) 10 (aK [5,6,7,8,9] [12,13])) 10 (aK [1,5,6,7,8,9] [12,13]))),[]))],[(13,⟨[],0,⟨[.d .int]++an 3 ([.p 0 0,.p 1 0,.any,.r 0,.any,.p 2 0,.p 3 0,.d .int]++an 162 []),[some ([.d z3],32),some ([.d z5],38),some ([.d z7],50),some ([.d z5],46)],[some (3,1,.int)]⟩,[(.exit 0,⟨[.d .int]++an 3 ([.p 0 0,.p 1 0,.any,.r 0,.any,.p 2 0,.p 3 0]++an 163 []),[some ([.d z3],32),some ([.d z5],38),some ([.d z7],50),some ([.d z5],46)],[some (3,1,.int)]⟩)]⟩),(22,⟨[],0,⟨an 5 ([.p 0 0]++an 6 ([.p 1 0,.p 2 0,.d (.row z1),.any,.p 3 0,.any,.d .int]++an 155 [])),[some ([.d z5],38),some ([.d z7],50),some ([.d z5],46),some ([.d z6],48)],[]⟩,[(.ret,⟨an 6 ([.d .bool]++an 167 []),[],[]⟩),(.exit 2,⟨an 5 ([.p 0 0]++an 6 ([.p 1 0,.any,.d (.row z1),.any,.p 2 0]++an 157 [])),[some ([.d z5],38),some ([.d z7],50),some ([.d z6],48)],[]⟩)]⟩)],[(9,[1])],[(9,⟨[.d .int]++an 3 ([.p 0 0,.p 1 0,.any,.r 0,.any,.p 2 0,.p 3 0]++an 163 []),[some ([.d z3],32),some ([.d z5],38),some ([.d z7],50),some ([.d z5],46)],[some (3,1,.int)]⟩)]⟩
@[irreducible] def a1n (x:af [.int,z3,z5]):Option (af [.bool]):=xf Yx a1D 7 x
def s_Z:bI:=⟨[.int,z3,z5],[.bool],a1n⟩
def a1Y:EE:=Yx.ad 7 s_Z
def a2e:bB a1Y:=bR ZT a1D (by kernel_rfl) fun x=>by unfold a1n;rfl
end Go.Proofs.YtdbjakibneeeiaaGreatDoor.Ex.d
end
