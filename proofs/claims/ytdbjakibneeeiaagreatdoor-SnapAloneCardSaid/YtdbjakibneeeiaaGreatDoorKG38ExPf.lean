/- Layer 18 (snap), purely: who may go on. -/
import Derived.Test.YtdbjakibneeeiaaGreatDoorKExPl
set_option linter.all false
set_option maxHeartbeats 4000000
set_option maxRecDepth 100000
noncomputable section
namespace Go.Proofs.YtdbjakibneeeiaaGreatDoor.Ex
open Go.RowKit Sx
def IM.may {s:P_2} (h:IM s):qP s:=by
 obtain ⟨hc,h1,h2,_,_,_,h3⟩:=h
 have:=hc.1
 have:=hc.2.1
 refine ⟨h1,by omega,by omega,by omega,fun x hx=>?_⟩
 obtain ⟨i,hi,rfl⟩:=List.getElem_of_mem hx
 have:=(h3 i hi).1
 unfold GA at this
 rwa [bE hi] at this
def SO (s:P_2) (h:uP s):aa (LD (s,())) fun r=>r.1=true→qP s:=(IE s h).mono fun r hr h1=>(hr.1 h1).may
def bG (v:cU) (w:Int) (s:P_2):Prop:=
 (v.2.1=0∧0≤v.2.2.1∧v.2.2.1<(List.length s.2.1:Int))∨(v.2.1=1∧0≤v.2.2.1∧v.2.2.1<(List.length s.2.1:Int))∨(v.2.1=2∧0≤v.2.2.1∧v.2.2.1<(List.length s.2.1:Int))∨(v.2.1=3∧bT s.2.1 v.2.2.1=true)∨
 (v.2.1=4∧∀k,k<List.length s.2.1→aM s.2.1 (k:Int) w=true)∨(v.2.1=5∧(0≤v.2.2.1∧v.2.2.1<(List.length s.2.1:Int))∧aM s.2.1 v.2.2.1 w=true)
def ue (v:cU) (w:Int) (s:P_2) (h:uP s):∃m:Bool,LD (s,())=some (m,())∧(m=true→qP s)∧aa (F_9 (v,w,s,())) fun r=>r.1=true↔(1≤w∧m=true∧bG v w s):=by
 obtain ⟨⟨m,u⟩,em,hm⟩:=SO s h
 refine ⟨m,em,hm,?_⟩
 refine aa.of (XA (v,w,s,())) ?_
 refine aa.br (fun hw=>?_) (fun hw=>⟨_,rfl,?_⟩)
 rotate_left
 ·have:w<1:=by
   by_cases c:w<1
   ·exact c
   ·have hw:(decide (w<(1:Int))==false)=false:=hw
    rw [decide_eq_false c] at hw;cases hw
  exact ⟨fun h=>(by cases h),fun h=>by omega⟩
 have hw:1≤w:=Int.not_lt.1 (of_decide_eq_false (eq_of_beq hw))
 refine aa.gj em ?_
 refine aa.br (fun h1=>⟨_,rfl,⟨fun h=>(by cases h),fun h=>?_⟩⟩) (fun h1=>?_)
 ·have h1:(!m)=true:=h1
  rw [h.2.1] at h1;cases h1
 have h1:m=true:=zT h1
 have hmo:=hm h1
 have hlen:(((List.length s.2.2.2.1:Nat):Int))=(List.length s.2.1:Int):=by rw [hmo.2.1]
 have lo:∀{ph:Int},ph=0∨ph=1∨ph=2→v.2.1=ph→aa (az (decide ((0:Int)≤v.2.2.1)==true) (some (decide (v.2.2.1<((List.length s.2.2.2.1:Nat):Int)),())) (some (false,()))) fun r:Bool×Unit=>r.1=true↔(1≤w∧m=true∧bG v w s):=by
  intro ph hph hv
  have hi:bG v w s↔(0≤v.2.2.1∧v.2.2.1<(List.length s.2.1:Int)):=by
   unfold bG
   constructor
   ·rintro (⟨_,h⟩ | ⟨_,h⟩ | ⟨_,h⟩ | ⟨h,_⟩ | ⟨h,_⟩ | ⟨h,_⟩)
    ·exact h
    ·exact h
    ·exact h
    all_goals (exfalso;omega)
   ·intro h
    rcases hph with rfl | rfl | rfl
    ·exact .inl ⟨hv,h⟩
    ·exact .inr (.inl ⟨hv,h⟩)
    ·exact .inr (.inr (.inl ⟨hv,h⟩))
  rw [hi,hlen]
  refine aa.br (fun h=>⟨_,rfl,?_⟩) (fun h=>⟨_,rfl,?_⟩)
  ·have h:=of_decide_eq_true (eq_of_beq h)
   exact decide_eq_true_iff.trans ⟨fun k=>⟨hw,h1,h,k⟩,fun k=>k.2.2.2⟩
  ·have h:¬ (0:Int)≤v.2.2.1:=fun c=>by rw [decide_eq_true c] at h;cases h
   exact ⟨fun k=>(by cases k),fun k=>absurd k.2.2.1 h⟩
 refine aa.br (fun p=>lo (ph:=0) (by simp) (eq_of_beq (α:=Int) p)) (fun p0=>?_)
 refine aa.br (fun p=>lo (ph:=1) (by simp) (eq_of_beq (α:=Int) p)) (fun p1=>?_)
 refine aa.br (fun p=>lo (ph:=2) (by simp) (eq_of_beq (α:=Int) p)) (fun p2=>?_)
 have p0:v.2.1≠0:=ne_of_beq_false (α:=Int) p0
 have p1:v.2.1≠1:=ne_of_beq_false (α:=Int) p1
 have p2:v.2.1≠2:=ne_of_beq_false (α:=Int) p2
 refine aa.br (fun p=>?_) (fun p3=>?_)
 ·have p:v.2.1=3:=eq_of_beq (α:=Int) p
  refine aa.gj (rI _ _) ⟨_,rfl,?_⟩
  show bT s.2.1 v.2.2.1=true↔_
  unfold bG
  constructor
  ·intro k;exact ⟨hw,h1,.inr (.inr (.inr (.inl ⟨p,k⟩)))⟩
  ·rintro ⟨_,_,(⟨h,_⟩ | ⟨h,_⟩ | ⟨h,_⟩ | ⟨_,h⟩ | ⟨h,_⟩ | ⟨h,_⟩)⟩
   any_goals (exfalso;omega)
   exact h
 have p3:v.2.1≠3:=ne_of_beq_false (α:=Int) p3
 refine aa.br (fun p=>?_) (fun p4=>?_)
 ·have p:v.2.1=4:=eq_of_beq (α:=Int) p
  refine aa.xb (E9 _ _ h.1) fun y hy=>⟨_,rfl,?_⟩
  obtain ⟨j,e,hj⟩:=hy
  have e:(show Int from y.1)=(j:Int):=e
  have hj:kX (fun k=>!aM s.2.1 (k:Int) w) (List.length s.2.1) 0 j:=hj
  have hq:((show Int from y.1)==((List.length s.2.1:Nat):Int))=true↔∀k,k<List.length s.2.1→aM s.2.1 (k:Int) w=true:=by
   refine (beq_iff_eq (α:=Int)).trans ?_
   rw [e]
   constructor
   ·intro e2 k hk
    have e2:(j:Int)=((List.length s.2.1:Nat):Int):=e2
    have:=hj.2.2.2 k (Nat.zero_le _) (by omega)
    have:(!aM s.2.1 (k:Int) w)=false:=this
    exact zT this
   ·intro ha
    have:=hj.2.1
    show (j:Int)=((List.length s.2.1:Nat):Int)
    by_cases c:j<List.length s.2.1
    ·have h2:(!aM s.2.1 (j:Int) w)=true:=hj.2.2.1 c
     rw [ha j c] at h2;cases h2
    ·omega
  refine hq.trans ?_
  unfold bG
  constructor
  ·intro k;exact ⟨hw,h1,.inr (.inr (.inr (.inr (.inl ⟨p,k⟩))))⟩
  ·rintro ⟨_,_,(⟨h,_⟩ | ⟨h,_⟩ | ⟨h,_⟩ | ⟨h,_⟩ | ⟨_,h⟩ | ⟨h,_⟩)⟩
   any_goals (exfalso;omega)
   exact h
 have p4:v.2.1≠4:=ne_of_beq_false (α:=Int) p4
 refine aa.br (fun p=>?_) (fun p5=>⟨_,rfl,?_⟩)
 ·have p:v.2.1=5:=eq_of_beq (α:=Int) p
  refine aa.xb (HF _ _ h.1) fun y hy=>?_
  refine aa.xb (yH _ _ (Nat.le_trans hy.1 h.1)) fun z hz=>⟨_,rfl,?_⟩
  refine hz.trans ((hy.2 v.2.2.1).trans ?_)
  show (∃k:Nat,v.2.2.1=(k:Int)∧k<List.length s.2.1∧aM s.2.1 (k:Int) w=true)↔_
  unfold bG
  constructor
  ·rintro ⟨k,e,hk,hh⟩
   refine ⟨hw,h1,.inr (.inr (.inr (.inr (.inr ⟨p,⟨by omega,by omega⟩,?_⟩))))⟩
   rw [e];exact hh
  ·rintro ⟨_,_,(⟨h,_⟩ | ⟨h,_⟩ | ⟨h,_⟩ | ⟨h,_⟩ | ⟨h,_⟩ | ⟨_,h,hh⟩)⟩
   any_goals (exfalso;omega)
   exact ⟨v.2.2.1.toNat,by omega,by omega,by rw [Int.toNat_of_nonneg h.1];exact hh⟩
 ·have p5:v.2.1≠5:=ne_of_beq_false (α:=Int) p5
  refine ⟨fun h=>(by cases h),?_⟩
  unfold bG
  rintro ⟨_,_,(⟨h,_⟩ | ⟨h,_⟩ | ⟨h,_⟩ | ⟨h,_⟩ | ⟨h,_⟩ | ⟨h,_⟩)⟩ <;> (exfalso;omega)
end Go.Proofs.YtdbjakibneeeiaaGreatDoor.Ex
namespace Go.Proofs.YtdbjakibneeeiaaGreatDoor.Ex
open Go.RowKit Sx
def WV (a:dc):Prop:=Gc a∧dx a.1=true
def TP (c:cQ):Prop:=List.length c.1≤20∧∀a:dc,a∈c.1→WV a
def lX (n:Nat) (L:List cQ):Prop:=L.length≤n∧∀c:cQ,c∈L→TP c
def lX.cl {n:Nat} {L:List cQ} (h:lX n L) (hn:n≤1000000):H9 L:=
 ⟨Nat.le_trans h.1 hn,fun c hc=>⟨Nat.le_trans (h.2 c hc).1 (by decide),fun a ha=>Nat.le_trans ((h.2 c hc).2 a ha).1.1 (by decide)⟩⟩
def lX.mono {n m:Nat} {L:List cQ} (h:lX n L) (hn:n≤m):lX m L:=⟨Nat.le_trans h.1 hn,h.2⟩
def gp (c:cQ):List dc:=c.1
def gw (L:List cQ):List dc:=L.flatMap gp
def Na (t:xu):txn.Tx:=queue.cz t
def yP (t:txn.Tx):xu:=queue.fK t
def s4 (x:dc):ax.PA:=ax.cX x
def nt (p:ax.PA):dc:=ax.kB p
def wR:∀L:List cQ,ax.mN L=gw L
 | []=>rfl
 | c::L=>by
  show List.append (gp c) (ax.mN L)=gw (c::L)
  have:=wR L
  exact (congrArg (List.append (gp c)) this).trans (by unfold gw;rfl)
def kY (L:List cQ):List ax.PA:=ax.zu (fun p:ax.PA=>p.1) ((gw L).map s4)
def tS (L:List cQ):ax.uf L=kY L:=by
 show ax.zu (fun p:ax.PA=>p.1) (List.map s4 (ax.mN L))=_
 exact congrArg (fun M:List dc=>ax.zu (fun p:ax.PA=>p.1) (M.map s4)) (wR L)
def dQ (L:List cQ):List dc:=(kY L).map nt
def GB:(yP∘Na)=id:=funext fun t=>rfl
def LU:(Na∘yP)=id:=funext fun t=>rfl
def zm:∀x:dc,nt (s4 x)=x
 | (s,b,L,u)=>by
  show (s,b,(List.map yP (List.map Na L)),())=(s,b,L,u)
  rw [List.map_map,GB,List.map_id]
def GI:∀p:ax.PA,s4 (nt p)=p
 | (s,b,L)=>by
  show (s,b,List.map Na (List.map yP L))=(s,b,L)
  rw [List.map_map,LU,List.map_id]
def Ft:(s4∘nt)=id:=funext GI
def ir (L:List cQ):(dQ L).map s4=kY L:=by
 unfold dQ
 rw [List.map_map,Ft,List.map_id]
def oy {x:dc} {L:List cQ}:x∈gw L↔∃c:cQ,c∈L∧x∈gp c:=List.mem_flatMap
def vk {L:List cQ} {x:dc} (h:x∈dQ L):x∈gw L:=by
 obtain ⟨p,hp,rfl⟩:=List.mem_map.1 h
 obtain ⟨y,hy,rfl⟩:=List.mem_map.1 ((ax.yC _ _).mem_iff.1 hp)
 rw [zm];exact hy
def Dg (L:List cQ):(dQ L).length=(gw L).length:=by
 unfold dQ kY
 rw [List.length_map,ax.Cb,List.length_map]
def nW {n:Nat}:∀{L:List cQ},(∀c:cQ,c∈L→List.length c.1≤n)→(gw L).length≤L.length*n
 | [],_=>by simp [gw]
 | c::L,h=>by
  have h1:(gp c).length≤n:=h c List.mem_cons_self
  have h2:=nW (L:=L) fun x hx=>h x (List.mem_cons_of_mem _ hx)
  have e:gw (c::L)=gp c++gw L:=rfl
  rw [e,List.length_append,List.length_cons,Nat.succ_mul]
  omega
def KI {t:xu} (h:ByteArray.size t.2.2.2.2.2.1≤500):ax.PJ t=true:=by
 have:ByteArray.size t.2.2.2.2.2.1≤maxLen:=Nat.le_trans h (by decide)
 exact decide_eq_true this
def Hg {L:List xu} (h:∀t∈L,ByteArray.size t.2.2.2.2.2.1≤500):L.all (fun t=>ax.PJ t)=true:=List.all_eq_true.2 fun t ht=>KI (h t ht)
def Ga {a:dc} (h:Gc a):ax.A7 a=true:=by
 have h1:decide (List.length a.2.2.1≤1000000)=true:=decide_eq_true (Nat.le_trans h.1 (by decide))
 have h2:List.all (a.2.2.1:List xu) (fun t=>ax.PJ t)=true:=Hg h.2
 exact Bool.and_eq_true_iff.2 ⟨h1,h2⟩
def KZ {n:Nat} {L:List cQ} (h:lX n L) (hn:n≤1000):ax.M7 L=true:=by
 have h1:=nW (n:=20) (L:=L) fun c hc=>(h.2 c hc).1
 have h2:=h.1
 show (decide (List.length L≤100000)&&(decide (List.length (ax.mN L)≤100000)&&(List.all (ax.mN L) ax.A7&&List.all (ax.mN L) fun x=>dx x.1)))=true
 have key:∀M:List dc,M=gw L→(decide (List.length L≤100000)&&(decide (List.length M≤100000)&&(List.all M (fun a=>ax.A7 a)&&List.all M fun x=>dx x.1)))=true:=by
  intro M hM
  subst hM
  have e1:decide (List.length L≤100000)=true:=decide_eq_true (by omega)
  have e2:decide ((gw L).length≤100000)=true:=decide_eq_true (by omega)
  have e3:List.all (gw L) (fun a=>ax.A7 a)=true:=List.all_eq_true.2 fun x hx=>by
   obtain ⟨c,h3,h4⟩:=oy.1 hx
   exact Ga ((h.2 c h3).2 x h4).1
  have e4:List.all (gw L) (fun x=>dx x.1)=true:=List.all_eq_true.2 fun x hx=>by
   obtain ⟨c,h3,h4⟩:=oy.1 hx
   exact ((h.2 c h3).2 x h4).2
  rw [e1,e2,e3,e4];rfl
 exact key _ (wR L)
def join_eq {n:Nat} (L:List cQ) (h:lX n L) (hn:n≤1000):My (L,())=some (dQ L,()):=by
 have e:My (L,())=bif ax.M7 L then some (List.map nt (ax.uf L),()) else none:=by unfold My;rfl
 rw [e,KZ h hn,tS];rfl
def IC (l:List ax.PA) (p:ax.PA):(ax.Hj l p).length≤l.length+1∧∀x∈ax.Hj l p,x∈l∨x=p:=by
 unfold ax.Hj
 split
 ·exact ⟨Nat.le_succ _,fun x h=>.inl h⟩
 ·exact ⟨by simp,fun x h=>by simpa using h⟩
def qT (P:List ax.PA):(ax.ry P).length≤P.length∧∀x∈ax.ry P,x∈P:=by
 have key:∀(P l:List ax.PA),(P.foldl ax.Hj l).length≤l.length+P.length∧∀x∈P.foldl ax.Hj l,x∈l∨x∈P:=by
  intro P
  induction P with
  | nil=>intro l;exact ⟨Nat.le_refl _,fun x h=>.inl h⟩
  | cons p P ih=>
   intro l
   obtain ⟨h1,h2⟩:=ih (ax.Hj l p)
   have h3:=IC l p
   refine ⟨by rw [List.foldl_cons,List.length_cons];omega,fun x hx=>?_⟩
   rcases h2 x hx with h | h
   ·rcases h3.2 x h with h | rfl
    ·exact .inl h
    ·exact .inr List.mem_cons_self
   ·exact .inr (List.mem_cons_of_mem _ h)
 obtain ⟨h1,h2⟩:=key P []
 refine ⟨by rw [List.length_nil,Nat.zero_add] at h1;exact h1,fun x hx=>?_⟩
 rcases h2 x hx with h | h
 ·cases h
 ·exact h
def C4 {k:Nat}:∀{l:List Nat},(∀x∈l,x≤k)→l.sum≤l.length*k
 | [],_=>by simp
 | x::l,h=>by
  have h1:=h x (by simp)
  have h2:=C4 (l:=l) fun y hy=>h y (by simp [hy])
  rw [List.sum_cons,List.length_cons,Nat.succ_mul]
  omega
def oU {P:List ax.PA} {n:Nat} (h:∀p∈P,p.2.2.length≤n) (g:Int):(ax.bg P g).length≤P.length*n:=by
 unfold ax.bg
 refine Nat.le_trans (aL.GP _ _) ?_
 unfold aL.dG
 refine Nat.le_trans (C4 (k:=n) fun x hx=>?_) ?_
 ·simp only [List.mem_map] at hx
  obtain ⟨l,⟨p,hp,rfl⟩,rfl⟩:=hx
  exact Nat.le_trans (aL.FW _ _) (h p ((qT P).2 p hp))
 ·rw [List.length_map,List.length_map]
  exact Nat.mul_le_mul_right _ (qT P).1
def CE (P:List ax.PA) (g:Int):List xu:=(ax.bg P g).map yP
def nD (L:List cQ) (g:Int):Te:=(0,(0,0,0,0,0,ByteArray.empty,()),CE (kY L) g,0,())
def qf {n:Nat} {L:List cQ} (h:lX n L):(kY L).length≤n*20:=by
 have h1:=nW (n:=20) (L:=L) fun c hc=>(h.2 c hc).1
 rw [← ir,List.length_map,Dg]
 exact Nat.le_trans h1 (Nat.mul_le_mul_right _ h.1)
def vG {n:Nat} {L:List cQ} (h:lX n L):∀p∈kY L,p.2.2.length≤20:=by
 intro p hp
 rw [← ir] at hp
 obtain ⟨a,ha,rfl⟩:=List.mem_map.1 hp
 obtain ⟨c,h1,h2⟩:=oy.1 (vk ha)
 have h3:(List.map Na a.2.2.1).length≤20:=by rw [List.length_map];exact ((h.2 c h1).2 a h2).1.1
 exact h3
def E5 {n:Nat} {L:List cQ} (h:lX n L) (g:Int):(CE (kY L) g).length≤n*400:=by
 unfold CE
 rw [List.length_map]
 refine Nat.le_trans (oU (vG h) g) ?_
 have:=qf h
 omega
def vP {n:Nat} {L:List cQ} (h:lX n L) (g:Int):List.length (nD L g).2.2.1≤n*400:=E5 h g
def qA {n:Nat} {L:List cQ} (g:Int) (h:lX n L) (hn:n≤1000) (hg:dx g=true):J8 (dQ L,g,())=some (CE (kY L) g,()):=by
 have e:J8 (dQ L,g,())=bif ax.rW (dQ L) g then some (CE (List.map s4 (dQ L)) g,()) else none:=by unfold J8;rfl
 have e2:ax.rW (dQ L) g=true:=by
  show (decide (List.length (dQ L)≤1000000)&&(List.all (dQ L) (fun a=>ax.A7 a)&&(dx g&&decide ((ax.bg (List.map s4 (dQ L)) g).length≤1000000))))=true
  have h1:decide (List.length (dQ L)≤1000000)=true:=by
   have:=qf h
   rw [← ir,List.length_map] at this
   exact decide_eq_true (by omega)
  have h2:List.all (dQ L) (fun a=>ax.A7 a)=true:=List.all_eq_true.2 fun a ha=>by
   obtain ⟨c,h1,h2⟩:=oy.1 (vk ha)
   exact Ga ((h.2 c h1).2 a h2).1
  have h3:decide ((ax.bg (List.map s4 (dQ L)) g).length≤1000000)=true:=by
   rw [ir]
   have h1:=oU (vG h) g
   have h2:=qf h
   exact decide_eq_true (by omega)
  rw [h1,h2,h3,hg];rfl
 rw [e,e2,ir];rfl
def zY {n:Nat} (v:cU) (L:List cQ) (h:lX n L) (hn:n≤1000) (hg:dx v.1=true):J6 (v,L,())=some (nD L v.1,()):=by
 refine (Xg (v,L,())).trans ?_
 refine (aY (join_eq L h hn)).trans ?_
 exact aY (qA v.1 h hn hg)
end Go.Proofs.YtdbjakibneeeiaaGreatDoor.Ex
namespace Go.Proofs.YtdbjakibneeeiaaGreatDoor.Ex
open Go.RowKit Sx
def cm (v:cU) (n:Int):cU:=bif v.2.2.1+1==n then (v.1,v.2.1+1,0,v.2.2.2) else (v.1,v.2.1,v.2.2.1+1,v.2.2.2)
def dn (v:cU):cU:=bif decide (IntKind.wrap IntKind.i64 (v.2.2.2.1+(1:Int))≥(2:Int)) then (v.1,3,0,IntKind.wrap IntKind.i64 (v.2.2.2.1+(1:Int)),[],[],v.2.2.2.2.2.2) else (v.1,0,0,IntKind.wrap IntKind.i64 (v.2.2.2.1+(1:Int)),[],[],v.2.2.2.2.2.2)
def kM (v:cU) (l:List Int):cU:=(v.1,v.2.1,v.2.2.1,v.2.2.2.1,l,v.2.2.2.2.2)
def mP (v:cU) (l:List cQ):cU:=(v.1,v.2.1,v.2.2.1,v.2.2.2.1,v.2.2.2.2.1,l,v.2.2.2.2.2.2)
abbrev fJ:cQ:=([],0,())
def gl (s:P_2) (i:Int):cQ:=List.getD s.2.2.2.1 i.toNat fJ
def nJ (v:cU) (s:P_2):Bool:=bT s.2.1 v.2.2.1&&(decide (v.2.2.1<(List.length v.2.2.2.2.1:Int))&&(List.getD v.2.2.2.2.1 v.2.2.1.toNat (0:Int)==(gl s v.2.2.1).2.1))
def fT (u:cU):cU:=bif u.2.1 != 2 then (u.1,6,u.2.2.1,u.2.2.2.1,u.2.2.2.2.1,u.2.2.2.2.2.1,nD u.2.2.2.2.2.1 u.1,()) else u
def kE (v:cU) (s:P_2):cU:=bif nJ v s then fT (cm v s.1.1) else dn v
def aB (v:cU) (w:Int) (s:P_2):cU×P_2×Int×Unit:=
 bif v.2.1==0 then (bif bT s.2.1 v.2.2.1 then cm (kM v ((v.2.2.2.2.1:List Int)++[(gl s v.2.2.1).2.1])) s.1.1 else dn v,s,0,())
 else bif v.2.1==1 then (cm (mP v ((v.2.2.2.2.2.1:List cQ)++[gl s v.2.2.1])) s.1.1,s,0,())
 else bif v.2.1==2 then (kE v s,s,bif v.2.2.1==0 then 1 else 0,())
 else bif v.2.1==3 then (cm v s.1.1,(s.1,List.set s.2.1 v.2.2.1.toNat w,s.2.2),0,())
 else bif v.2.1==4 then ((v.1,5,0,v.2.2.2.1,v.2.2.2.2.1,v.2.2.2.2.2.1,nD s.2.2.2.1 v.1,()),s,2,())
 else (cm v s.1.1,(s.1,List.set s.2.1 v.2.2.1.toNat (0:Int),s.2.2),0,())
def kL (n:Nat) (v:cU):Prop:=List.length v.2.2.2.2.1≤n∧lX n v.2.2.2.2.2.1∧List.length v.2.2.2.2.2.2.1.2.2.1≤1000000∧dx v.1=true
def xW (s:P_2):Prop:=List.length s.2.1≤10∧lX 10 s.2.2.2.1
def kL.cl {n:Nat} {v:cU} (h:kL n v) (hn:n≤1000):Iw v:=⟨Nat.le_trans h.1 (by omega),h.2.1.cl (by omega),h.2.2.1⟩
def xW.cl {s:P_2} (h:xW s):uP s:=⟨Nat.le_trans h.1 (by decide),h.2.cl (by decide)⟩
def kL.mono {n m:Nat} {v:cU} (h:kL n v) (hn:n≤m):kL m v:=⟨Nat.le_trans h.1 hn,h.2.1.mono hn,h.2.2⟩
def yE (v:cU) (s:P_2) (h1:dx (v.2.2.1+(1:Int))=true) (h2:dx (v.2.1+(1:Int))=true):F_8 (v,s,())=some (cm v s.1.1,()):=by
 refine (WJ (v,s,())).trans ?_
 refine (aT h1).trans ?_
 unfold cm
 cases h:(v.2.2.1+1==s.1.1) with
 | false=>exact aN rfl
 | true=>exact (aZ rfl).trans (aT h2)
def Cs (v:cU):Je (v,())=some (dn v,()):=by
 refine (Xh (v,())).trans ?_
 unfold dn
 cases h:decide (IntKind.wrap IntKind.i64 (v.2.2.2.1+(1:Int))≥(2:Int)) with
 | false=>exact aN rfl
 | true=>exact aZ rfl
def kL.on {n:Nat} {v:cU} (h:kL n v) (k:Int):kL n (cm v k):=by
 unfold cm
 cases (v.2.2.1+1==k) <;> exact h
def kL.fail {n:Nat} {v:cU} (h:kL n v):kL n (dn v):=by
 unfold dn
 cases decide (IntKind.wrap IntKind.i64 (v.2.2.2.1+(1:Int))≥(2:Int)) <;> exact ⟨Nat.zero_le _,⟨Nat.zero_le _,fun c hc=>by cases hc⟩,h.2.2.1,h.2.2.2⟩
def Ke {s:P_2} (h:xW s) {i:Int} (h1:0≤i) (h2:i<(List.length s.2.2.2.1:Int)):TP (gl s i):=by
 have h3:i.toNat<List.length s.2.2.2.1:=by omega
 unfold gl
 rw [bE h3]
 exact h.2.2 _ (List.getElem_mem h3)
def Hs {n:Nat} (v:cU) (w:Int) (s:P_2) (hn:n≤1000) (hv:kL n v) (hs:xW s) (hl:List.length s.2.2.2.1=List.length s.2.1) (hp:v.2.1=0) (h1:0≤v.2.2.1) (h2:v.2.2.1<(List.length s.2.1:Int)) :
  MG (v,w,s,())=some (bif bT s.2.1 v.2.2.1 then cm (kM v ((v.2.2.2.2.1:List Int)++[(gl s v.2.2.1).2.1])) s.1.1 else dn v,s,(0:Int),()):=by
 refine (XP (v,w,s,())).trans ?_
 refine (aY (rI _ _)).trans ?_
 cases hf:bT s.2.1 v.2.2.1 with
 | false=>
  refine (aZ (by rfl)).trans ?_
  exact aY (Cs v)
 | true=>
  refine (aN (by rfl)).trans ?_
  have hb:∀x:Int,(Nat.ble (List.length v.2.2.2.2.1+List.length [x]) 9223372036854775807&&Nat.ble ((List.length v.2.2.2.2.1+List.length [x])*8) 140737488355328)=true:=fun x=>by
   have:=hv.1
   rw [Bool.and_eq_true,Nat.ble_eq,Nat.ble_eq,List.length_singleton];omega
  have hi:v.2.2.1<(List.length s.2.2.2.1:Int):=by rw [hl];exact h2
  refine (aY ((aT (bC.2 ⟨h1,hi⟩)).trans ((aT (decide_eq_true (by show v.2.2.1.toNat<List.length s.2.2.2.1;omega))).trans (EH ((aY (iB (Nat.le_trans hv.1 (by omega)))).trans (aT (hb _))) ((aY (iB (Nat.le_trans hv.1 (by omega)))).trans (aT (hb _))) (wU rfl rfl rfl _))))).trans ?_
  have hs2:=hs.1
  refine (aY (yE (kM v ((v.2.2.2.2.1:List Int)++[(gl s v.2.2.1).2.1])) s (bS (by show _≤v.2.2.1+1;omega) (by show v.2.2.1+1≤_;omega)) (bS (by show _≤v.2.1+1;omega) (by show v.2.1+1≤_;omega)))).trans ?_
  rfl
def copy_eq {n:Nat} (v:cU) (w:Int) (s:P_2) (hn:n≤1000) (hv:kL n v) (hs:xW s) (hl:List.length s.2.2.2.1=List.length s.2.1) (hp:v.2.1=1) (h1:0≤v.2.2.1) (h2:v.2.2.1<(List.length s.2.1:Int)) :
  Mh (v,w,s,())=some (cm (mP v ((v.2.2.2.2.2.1:List cQ)++[gl s v.2.2.1])) s.1.1,s,(0:Int),()):=by
 refine (WN (v,w,s,())).trans ?_
 have hb:∀x:cQ,(Nat.ble (List.length v.2.2.2.2.2.1+List.length [x]) 9223372036854775807&&Nat.ble ((List.length v.2.2.2.2.2.1+List.length [x])*32) 140737488355328)=true:=fun x=>by
  have:=hv.2.1.1
  rw [Bool.and_eq_true,Nat.ble_eq,Nat.ble_eq,List.length_singleton];omega
 have hi:v.2.2.1<(List.length s.2.2.2.1:Int):=by rw [hl];exact h2
 refine (aY ((aT (bC.2 ⟨h1,hi⟩)).trans ((aT (decide_eq_true (by show v.2.2.1.toNat<List.length s.2.2.2.1;omega))).trans (EH ((aY (iB (Nat.le_trans hv.2.1.1 (by omega)))).trans (aT (hb _))) ((aY (iB (Nat.le_trans hv.2.1.1 (by omega)))).trans (aT (hb _))) (wU rfl rfl rfl _))))).trans ?_
 have hs2:=hs.1
 refine (aY (yE (mP v ((v.2.2.2.2.2.1:List cQ)++[gl s v.2.2.1])) s (bS (by show _≤v.2.2.1+1;omega) (by show v.2.2.1+1≤_;omega)) (bS (by show _≤v.2.1+1;omega) (by show v.2.1+1≤_;omega)))).trans ?_
 rfl
def Iu (v:cU) (s:P_2) (hl:List.length s.2.2.2.1=List.length s.2.1) (h1:0≤v.2.2.1) (h2:v.2.2.1<(List.length s.2.1:Int)):Lp (v,s,())=some (nJ v s,()):=by
 refine (WY (v,s,())).trans ?_
 refine (aY (rI _ _)).trans ?_
 unfold nJ
 cases bT s.2.1 v.2.2.1 with
 | false=>rfl
 | true=>
  refine (aZ (by rfl)).trans ?_
  cases h3:decide (v.2.2.1<(List.length v.2.2.2.2.1:Int)) with
  | false=>exact aN rfl
  | true=>
   have h4:=of_decide_eq_true h3
   have hi:v.2.2.1<(List.length s.2.2.2.1:Int):=by rw [hl];exact h2
   refine (aZ rfl).trans ?_
   refine (aT (bC.2 ⟨h1,h4⟩)).trans ((aT (decide_eq_true (by show v.2.2.1.toNat<List.length v.2.2.2.2.1;omega))).trans ?_)
   exact (aT (bC.2 ⟨h1,hi⟩)).trans (aT (decide_eq_true (by show v.2.2.1.toNat<List.length s.2.2.2.1;omega)))
def JC {n:Nat} (v:cU) (w:Int) (s:P_2) (hn:n≤1000) (hv:kL n v) (hs:xW s) (hl:List.length s.2.2.2.1=List.length s.2.1) (hp:v.2.1=2) (h1:0≤v.2.2.1) (h2:v.2.2.1<(List.length s.2.1:Int)) :
  MI (v,w,s,())=some (kE v s,s,(bif v.2.2.1==0 then (1:Int) else (0:Int)),()):=by
 have hs2:=hs.1
 have key:∀told:Int,xb (Lp (v,s,())) (fun y0:Bool×Unit=>az (!y0.1) (xb (Je (v,())) fun y1:cU×Unit=>some (y1.1,s,told,())) (xb (F_8 (v,s,())) fun y2:cU×Unit=>az (y2.1.2.1 != (2:Int)) (xb (J6 (y2.1,y2.1.2.2.2.2.2.1,())) fun y3:Te×Unit=>some ((y2.1.1,6,y2.1.2.2.1,y2.1.2.2.2.1,y2.1.2.2.2.2.1,y2.1.2.2.2.2.2.1,y3),s,told,())) (some (y2.1,s,told,()))))=some (kE v s,s,told,()):=by
  intro told
  refine (aY (Iu v s hl h1 h2)).trans ?_
  unfold kE
  cases nJ v s with
  | false=>exact (aZ rfl).trans (aY (Cs v))
  | true=>
   refine (aN rfl).trans ?_
   refine (aY (yE v s (bS (by show _≤v.2.2.1+1;omega) (by show v.2.2.1+1≤_;omega)) (bS (by show _≤v.2.1+1;omega) (by show v.2.1+1≤_;omega)))).trans ?_
   show az ((cm v s.1.1).2.1 != (2:Int)) _ _=some (fT (cm v s.1.1),s,told,())
   have hg:=hv.on s.1.1
   generalize cm v s.1.1=u at hg ⊢
   unfold fT
   cases h:(u.2.1 != (2:Int)) with
   | false=>rfl
   | true=>
    refine (aZ rfl).trans ?_
    exact aY (zY u _ hg.2.1 hn hg.2.2.2)
 refine (Xy (v,w,s,())).trans ?_
 cases h:(v.2.2.1==(0:Int)) with
 | false=>exact (aN rfl).trans (key 0)
 | true=>exact (aZ rfl).trans (key 1)
def NZ (y:af DP):cG 0 y=MG y:=by unfold cG;rw [beq_self_eq_true,cond_true]
def Og (y:af DP):cG 1 y=Mh y:=by unfold cG;rw [beq_false_of_ne (show (1:Int)≠0 by decide),cond_false,beq_self_eq_true,cond_true]
def PS (y:af DP):cG 2 y=MI y:=by unfold cG;rw [beq_false_of_ne (show (2:Int)≠0 by decide),cond_false,beq_false_of_ne (show (2:Int)≠1 by decide),cond_false,beq_self_eq_true,cond_true]
def Pm (y:af DP):cG 3 y=Eh y:=by unfold cG;rw [beq_false_of_ne (show (3:Int)≠0 by decide),cond_false,beq_false_of_ne (show (3:Int)≠1 by decide),cond_false,beq_false_of_ne (show (3:Int)≠2 by decide),cond_false,beq_self_eq_true,cond_true]
def MW (y:af DP):cG 4 y=EJ y:=by unfold cG;rw [beq_false_of_ne (show (4:Int)≠0 by decide),cond_false,beq_false_of_ne (show (4:Int)≠1 by decide),cond_false,beq_false_of_ne (show (4:Int)≠2 by decide),cond_false,beq_false_of_ne (show (4:Int)≠3 by decide),cond_false,beq_self_eq_true,cond_true]
def N5 (y:af DP):cG 5 y=Fu y:=by unfold cG;rw [beq_false_of_ne (show (5:Int)≠0 by decide),cond_false,beq_false_of_ne (show (5:Int)≠1 by decide),cond_false,beq_false_of_ne (show (5:Int)≠2 by decide),cond_false,beq_false_of_ne (show (5:Int)≠3 by decide),cond_false,beq_false_of_ne (show (5:Int)≠4 by decide),cond_false,beq_self_eq_true,cond_true]
def step_eq {n:Nat} (v:cU) (w:Int) (s:P_2) (hn:n<1000) (hv:kL n v) (hs:xW s) (ha:F_9 (v,w,s,())=some (true,())) (hm:qP s) (hw:1≤w) (hp:bG v w s) :
  F_2 (v,w,s,())=some (aB v w s)∧kL (n+1) (aB v w s).1∧xW (aB v w s).2.1∧List.length (aB v w s).2.1.2.1=List.length s.2.1∧(aB v w s).2.1.1=s.1∧(aB v w s).2.1.2.2=s.2.2:=by
 have hl:=hm.2.1
 have hs2:=hs.1
 have hend:∀(v':cU) (s':P_2) (k:Int),kL (n+1) v'→xW s'→eP v' s' k=some (v',s',k,()):=fun v' s' k h1 h2=>by
  unfold eP
  refine (aY (qv v' (h1.cl (by omega)))).trans ?_
  exact aY (hU s' h2.cl)
 have hstep:∀{r:cU×P_2×Int×Unit},cG v.2.1 (v,w,s,())=some r→kL (n+1) r.1→xW r.2.1→F_2 (v,w,s,())=some r:=fun {r} h1 h2 h3=>by
  unfold F_2
  refine (aY ha).trans ((aZ rfl).trans ((aY h1).trans ?_))
  exact hend _ _ _ h2 h3
 have hset:∀(x:Int),xW (s.1,List.set s.2.1 v.2.2.1.toNat x,s.2.2):=fun x=>⟨by show List.length (List.set s.2.1 v.2.2.1.toNat x)≤10;rw [List.length_set];exact hs.1,hs.2⟩
 have hin:v.2.1=0∨v.2.1=1∨v.2.1=2∨v.2.1=3∨v.2.1=5→0≤v.2.2.1∧v.2.2.1<(List.length s.2.1:Int):=by
  intro hc
  rcases hp with ⟨h,h1⟩ | ⟨h,h1⟩ | ⟨h,h1⟩ | ⟨h,h1⟩ | ⟨h,h1⟩ | ⟨h,h1,_⟩
  ·exact h1
  ·exact h1
  ·exact h1
  ·exact dA.1 (Bool.and_eq_true_iff.1 h1).1
  ·exfalso;omega
  ·exact h1
 have hon:v.2.1=0∨v.2.1=1∨v.2.1=2∨v.2.1=3∨v.2.1=5→dx (v.2.2.1+(1:Int))=true∧dx (v.2.1+(1:Int))=true:=fun hc=>by
  have:=hin hc
  exact ⟨bS (by omega) (by omega),bS (by omega) (by omega)⟩
 rcases hp with ⟨h,h1,h2⟩ | ⟨h,h1,h2⟩ | ⟨h,h1,h2⟩ | ⟨h,h1⟩ | ⟨h,h1⟩ | ⟨h,⟨h1,h2⟩,h3⟩
 ·have e:aB v w s=(bif bT s.2.1 v.2.2.1 then cm (kM v ((v.2.2.2.2.1:List Int)++[(gl s v.2.2.1).2.1])) s.1.1 else dn v,s,0,()):=by unfold aB;rw [h];rfl
  have hg:kL (n+1) (aB v w s).1:=by
   rw [e]
   show kL (n+1) (bif bT s.2.1 v.2.2.1 then _ else _)
   cases bT s.2.1 v.2.2.1 with
   | false=>exact hv.fail.mono (Nat.le_succ _)
   | true=>
    refine kL.on (v:=kM v ((v.2.2.2.2.1:List Int)++[(gl s v.2.2.1).2.1])) ⟨?_,hv.2.1.mono (Nat.le_succ _),hv.2.2⟩ s.1.1
    show List.length ((v.2.2.2.2.1:List Int)++[_])≤n+1
    rw [List.length_append]
    exact Nat.succ_le_succ hv.1
  refine ⟨hstep ?_ hg (by rw [e];exact hs),hg,by rw [e];exact hs,by rw [e],by rw [e],by rw [e]⟩
  rw [e,h]
  refine (NZ _).trans ?_
  exact Hs v w s (Nat.le_of_lt hn) hv hs hl h h1 h2
 ·have e:aB v w s=(cm (mP v ((v.2.2.2.2.2.1:List cQ)++[gl s v.2.2.1])) s.1.1,s,0,()):=by unfold aB;rw [h];rfl
  have hg:kL (n+1) (aB v w s).1:=by
   rw [e]
   refine kL.on (v:=mP v ((v.2.2.2.2.2.1:List cQ)++[gl s v.2.2.1])) ⟨Nat.le_trans hv.1 (Nat.le_succ _),⟨?_,fun c hc=>?_⟩,hv.2.2⟩ s.1.1
   ·show List.length ((v.2.2.2.2.2.1:List cQ)++[_])≤n+1
    rw [List.length_append]
    exact Nat.succ_le_succ hv.2.1.1
   ·have hc:c∈(v.2.2.2.2.2.1:List cQ)++[gl s v.2.2.1]:=hc
    rw [List.mem_append,List.mem_singleton] at hc
    rcases hc with hc | rfl
    ·exact hv.2.1.2 c hc
    ·exact Ke hs h1 (by rw [hl];exact h2)
  refine ⟨hstep ?_ hg (by rw [e];exact hs),hg,by rw [e];exact hs,by rw [e],by rw [e],by rw [e]⟩
  rw [e,h]
  refine (Og _).trans ?_
  exact copy_eq v w s (Nat.le_of_lt hn) hv hs hl h h1 h2
 ·have e:aB v w s=(kE v s,s,bif v.2.2.1==0 then 1 else 0,()):=by unfold aB;rw [h];rfl
  have hg:kL (n+1) (aB v w s).1:=by
   rw [e]
   show kL (n+1) (kE v s)
   unfold kE
   cases nJ v s with
   | false=>exact hv.fail.mono (Nat.le_succ _)
   | true=>
    have hu:=hv.on s.1.1
    show kL (n+1) (fT (cm v s.1.1))
    generalize cm v s.1.1=u at hu
    unfold fT
    cases (u.2.1 != (2:Int)) with
    | false=>exact hu.mono (Nat.le_succ _)
    | true=>exact ⟨Nat.le_trans hu.1 (Nat.le_succ _),hu.2.1.mono (Nat.le_succ _),Nat.le_trans (vP hu.2.1 _) (by omega),hu.2.2.2⟩
  refine ⟨hstep ?_ hg (by rw [e];exact hs),hg,by rw [e];exact hs,by rw [e],by rw [e],by rw [e]⟩
  rw [e,h]
  refine (PS _).trans ?_
  exact JC v w s (Nat.le_of_lt hn) hv hs hl h h1 h2
 ·have e:aB v w s=(cm v s.1.1,(s.1,List.set s.2.1 v.2.2.1.toNat w,s.2.2),0,()):=by unfold aB;rw [h];rfl
  have hg:kL (n+1) (aB v w s).1:=by rw [e];exact (hv.on s.1.1).mono (Nat.le_succ _)
  refine ⟨hstep ?_ hg (by rw [e];exact hset w),hg,by rw [e];exact hset w,by rw [e];exact List.length_set,by rw [e],by rw [e]⟩
  rw [e,h]
  refine (Pm _).trans ?_
  refine (XB (v,w,s,())).trans ?_
  refine (aY (GQ _ _ _ h1 hw (Nat.le_trans hs.1 (by decide)))).trans ?_
  obtain ⟨i1,i2⟩:=hon (by omega)
  exact aY (yE v (s.1,List.set s.2.1 v.2.2.1.toNat w,s.2.2) i1 i2)
 ·have e:aB v w s=((v.1,5,0,v.2.2.2.1,v.2.2.2.2.1,v.2.2.2.2.2.1,nD s.2.2.2.1 v.1,()),s,2,()):=by unfold aB;rw [h];rfl
  have hg:kL (n+1) (aB v w s).1:=by
   rw [e]
   exact ⟨Nat.le_trans hv.1 (Nat.le_succ _),hv.2.1.mono (Nat.le_succ _),Nat.le_trans (vP hs.2 _) (by decide),hv.2.2.2⟩
  refine ⟨hstep ?_ hg (by rw [e];exact hs),hg,by rw [e];exact hs,by rw [e],by rw [e],by rw [e]⟩
  rw [e,h]
  refine (MW _).trans ?_
  refine (X6 (v,w,s,())).trans ?_
  exact aY (zY v _ hs.2 (by decide) hv.2.2.2)
 ·have e:aB v w s=(cm v s.1.1,(s.1,List.set s.2.1 v.2.2.1.toNat (0:Int),s.2.2),0,()):=by unfold aB;rw [h];rfl
  have hg:kL (n+1) (aB v w s).1:=by rw [e];exact (hv.on s.1.1).mono (Nat.le_succ _)
  refine ⟨hstep ?_ hg (by rw [e];exact hset 0),hg,by rw [e];exact hset 0,by rw [e];exact List.length_set,by rw [e],by rw [e]⟩
  rw [e,h]
  refine (N5 _).trans ?_
  refine (Xa (v,w,s,())).trans ?_
  refine (aY (I3 _ _ _ h1 h2 h3 (Nat.le_trans hs.1 (by decide)))).trans ?_
  obtain ⟨i1,i2⟩:=hon (by omega)
  exact aY (yE v (s.1,List.set s.2.1 v.2.2.1.toNat (0:Int),s.2.2) i1 i2)
end Go.Proofs.YtdbjakibneeeiaaGreatDoor.Ex
namespace Go.Proofs.YtdbjakibneeeiaaGreatDoor.Ex
open Go.RowKit Sx
def vZ {S A R:Type} {step:S→Option (S ⊕ R)} (mk:Int→List A→S) (L:List A) (d:A) (out:List A→R) (hL:L.length≤9223372036854775807)
  (h:∀(k:Nat) (acc:List A),k<L.length→acc.length=k→step (mk (k:Int) acc)=some (.inl (mk ((k:Int)+1) (acc++[L.getD (Int.toNat (k:Int)) d])))) (he:∀acc:List A,step (mk (L.length:Int) acc)=some (.inr (out acc))) {s:S} (hs:s=mk 0 []):b6 step bn s=some (out L):=by
 refine aa.of_eq (Q:=fun _=>True) (aa.idx (Q:=fun r=>r=out L) (fun k=>mk (k:Int) (L.take k)) (fun _=>True) L.length hL trivial (fun k hk _=>?_) (fun _=>?_) hs)
 ·rw [h k (L.take k) hk (by rw [List.length_take];omega)]
  refine ⟨_,rfl,?_,trivial⟩
  rw [List.take_succ_eq_append_getElem hk,Int.toNat_natCast,bE hk];rfl
 ·rw [List.take_length,he]
  exact ⟨_,rfl,rfl⟩
def tj {X A R:Type} {step:(Int×Unit)×(X×(List A×Unit))→Option (((Int×Unit)×(X×(List A×Unit))) ⊕ R)} {x:X} (L:List A) (d:A) (out:X→List A→R) (hL:L.length≤9223372036854775807)
  (h:∀(k:Nat) (acc:List A),k<L.length→acc.length=k→step (((k:Int),()),x,acc,())=some (.inl (((k:Int)+1,()),x,acc++[L.getD (Int.toNat (k:Int)) d],()))) (he:∀acc:List A,step (((L.length:Int),()),x,acc,())=some (.inr (out x acc))):b6 step bn (((0:Int),()),x,[],())=some (out x L):=
 vZ (fun k acc=>((k,()),x,acc,())) L d (out x) hL h he rfl
def JH {n k c:Nat} (hk:k<n) (hn:n≤1000000) (hc:c≤1000):(Nat.ble (k+1) 9223372036854775807&&Nat.ble ((k+1)*c) 140737488355328)=true:=by
 rw [Bool.and_eq_true,Nat.ble_eq,Nat.ble_eq]
 have:(k+1)*c≤1000000*1000:=Nat.mul_le_mul (by omega) hc
 omega
def zH (L:List cQ) (hL:L.length≤1000000):Mz (L,())=some (L,()):=by
 refine (WT (L,())).trans ?_
 refine (aY (vZ (fun k acc=>((L,k,()),(),acc,())) L fJ (fun acc=>.inl ((),(),acc,())) (by omega) (fun k acc hk ha=>?_) (fun acc=>?_) rfl)).trans rfl
 ·refine (aZ (cr hk)).trans ((aT (b9 hk)).trans ((aT (bf hk)).trans ((aT ?_).trans (aT (aU hk (by omega))))))
  show (Nat.ble (acc.length+1) _&&Nat.ble ((acc.length+1)*32) _)=true
  rw [ha];exact JH hk hL (by decide)
 ·exact aN cq
def zi (s:P_2) (h:List.length s.2.2.2.1≤1000000):F_4 (s,())=some (s,()):=
 (XY (s,())).trans (aY (zH _ h))
def oP (s:P_2) (hL:List.length s.2.2.2.1≤1000000):Mi (s,())=some (s,()):=by
 refine (Xm (s,())).trans ?_
 refine (aY (tj (s.2.2.2.1:List cQ) fJ (fun x acc=>.inl ((),x.2,acc,())) (by omega) (fun k acc hk ha=>?_) (fun acc=>?_))).trans rfl
 ·refine (aZ (cr hk)).trans ((aT (b9 hk)).trans ((aT (bf hk)).trans ((aT ?_).trans (aT (aU hk (by omega))))))
  show (Nat.ble (acc.length+1) _&&Nat.ble ((acc.length+1)*32) _)=true
  rw [ha];exact JH hk hL (by decide)
 ·exact aN cq
def lZ {S R:Type} {step:S→Option (S ⊕ R)} (mk:Int→S) (n:Nat) (out:R) (hn:n≤9223372036854775807) (h:∀k:Nat,k<n→step (mk (k:Int))=some (.inl (mk ((k:Int)+1)))) (he:step (mk (n:Int))=some (.inr out)) {s:S} (hs:s=mk 0):b6 step bn s=some out:=by
 refine aa.of_eq (Q:=fun _=>True) (aa.idx (Q:=fun r=>r=out) (fun k=>mk (k:Int)) (fun _=>True) n hn trivial (fun k hk _=>?_) (fun _=>?_) hs)
 ·rw [h k hk];exact ⟨_,rfl,rfl,trivial⟩
 ·rw [he];exact ⟨_,rfl,rfl⟩
def uk (x:Int):(x != x)=false:=by simp
def rH (x:Int):(x==x)=true:=by simp
def yA (x:ByteArray):Eg x x=true:=decide_eq_true rfl
def Gs (L:List Int) (hL:L.length≤1000000):Ms (L,L,())=some (true,()):=by
 refine (WO (L,L,())).trans ?_
 refine (aN (uk _)).trans ?_
 refine (aY (lZ (fun k=>((L,L,k,()),(),())) L.length (.inr (.inl ((),(),()))) (by omega) (fun k hk=>?_) ?_ rfl)).trans rfl
 ·refine (aZ (cr hk)).trans ((aT (b9 hk)).trans ((aT (bf hk)).trans ((aT (b9 hk)).trans ((aT (bf hk)).trans ((aN (uk _)).trans (aT (aU hk (by omega))))))))
 ·exact aN cq
def zF (L:List xu) (hL:L.length≤1000000):MA (L,L,())=some (true,()):=by
 refine (Yp (L,L,())).trans ?_
 refine (aN (uk _)).trans ?_
 refine (aY (lZ (fun k=>((L,L,k,()),(),())) L.length (.inr (.inl ((),(),()))) (by omega) (fun k hk=>?_) ?_ rfl)).trans rfl
 ·refine (aZ (cr hk)).trans ((aT (b9 hk)).trans ((aT (bf hk)).trans ((aT (b9 hk)).trans ((aT (bf hk)).trans ((aN ?_).trans (aT (aU hk (by omega))))))))
  generalize (List.getD _ _ _:xu)=t
  simp only [rH,yA,Bool.and_true,Bool.not_true]
 ·exact aN cq
def JG (a:dc) (hL:List.length a.2.2.1≤1000000):MB (a,a,())=some (true,()):=by
 refine (XC (a,a,())).trans ?_
 refine (aZ (by simp)).trans ((aZ (by simp)).trans ?_)
 exact (aY (zF _ hL))
def Dx (L:List dc) (hL:L.length≤1000000) (h:∀a:dc,a∈L→List.length a.2.2.1≤1000000):G0 (L,L,())=some (true,()):=by
 refine (WX (L,L,())).trans ?_
 refine (aN (uk _)).trans ?_
 refine (aY (lZ (fun k=>((L,L,k,()),(),())) L.length (.inr (.inl ((),(),()))) (by omega) (fun k hk=>?_) ?_ rfl)).trans rfl
 ·have eg:(L:List dc).getD (Int.toNat (k:Int)) ((0:Int),(0:Int),[],())=L[k]:=by rw [Int.toNat_natCast];exact bE hk
  have hm:L[k]∈L:=List.getElem_mem hk
  have e:MB ((L:List dc).getD (Int.toNat (k:Int)) ((0:Int),(0:Int),[],()),(L:List dc).getD (Int.toNat (k:Int)) ((0:Int),(0:Int),[],()),())=some (true,()):=by rw [eg];exact JG _ (h _ hm)
  exact (aZ (cr hk)).trans ((aT (b9 hk)).trans ((aT (bf hk)).trans ((aT (b9 hk)).trans ((aT (bf hk)).trans ((aY e).trans ((aN rfl).trans (aT (aU hk (by omega)))))))))
 ·exact aN cq
def E4 (c:cQ) (hL:List.length c.1≤1000000) (h:∀a:dc,a∈c.1→List.length a.2.2.1≤1000000):IF (c,c,())=some (true,()):=by
 refine (WE (c,c,())).trans ?_
 exact (aZ (by simp)).trans (aY (Dx _ hL h))
def K8 (r:Te) (h:List.length r.2.2.1≤1000000):DV (r,r,())=some (true,()):=by
 refine (Yb (r,r,())).trans ?_
 refine (aZ (by simp)).trans ((aZ ?_).trans ((aZ (by simp)).trans (aY (zF _ h))))
 simp only [rH,yA,Bool.and_true,beq_self_eq_true]
def vI (s:P_2) (h:uP s):MF (s,s,())=some (true,()):=by
 refine (X8 (s,s,())).trans ?_
 refine (aZ (by simp only [rH,Bool.and_true,Bool.not_true,beq_self_eq_true])).trans ((aZ (by simp only [rH,Bool.and_true,Bool.not_true,beq_self_eq_true])).trans ?_)
 refine (aY (Gs _ h.1)).trans ((aZ rfl).trans ((aN (uk _)).trans ?_))
 have hL:=h.2.1
 refine (aY (lZ (fun k=>((k,()),((s,()),(s,()),()),())) (List.length s.2.2.2.1) (.inr (.inl ((),(),()))) (by omega) (fun k hk=>?_) ?_ rfl)).trans rfl
 ·have eg:(s.2.2.2.1:List cQ).getD (Int.toNat (k:Int)) fJ=(s.2.2.2.1:List cQ)[k]:=by rw [Int.toNat_natCast];exact bE hk
  have hm:(s.2.2.2.1:List cQ)[k]∈(s.2.2.2.1:List cQ):=List.getElem_mem hk
  have e:IF ((s.2.2.2.1:List cQ).getD (Int.toNat (k:Int)) fJ,(s.2.2.2.1:List cQ).getD (Int.toNat (k:Int)) fJ,())=some (true,()):=by rw [eg];exact E4 _ (h.2.2 _ hm).1 (h.2.2 _ hm).2
  exact (aZ (cr hk)).trans ((aT (b9 hk)).trans ((aT (bf hk)).trans ((aT (b9 hk)).trans ((aT (bf hk)).trans ((aY e).trans ((aN rfl).trans (aT (aU hk (by omega)))))))))
 ·exact aN cq
end Go.Proofs.YtdbjakibneeeiaaGreatDoor.Ex
namespace Go.Proofs.YtdbjakibneeeiaaGreatDoor.Ex
open Go.RowKit Sx
def de (v:cU) (w:Int) (s:P_2):Bool:=((F_9 (v,w,s,())).getD (false,())).1
def kz (v:cU) (w:Int) (s:P_2) (h:uP s):F_9 (v,w,s,())=some (de v w s,())∧(de v w s=true→qP s∧1≤w∧bG v w s):=by
 obtain ⟨m,em,hm,⟨⟨b,u⟩,e,hb⟩⟩:=ue v w s h
 have e2:de v w s=b:=by unfold de;rw [e];rfl
 rw [e2]
 exact ⟨e,fun h=>by
  obtain ⟨h1,h2,h3⟩:=hb.1 h
  exact ⟨hm h2,h1,h3⟩⟩
def iY (v:cU) (w:Int) (s:P_2):cU×P_2×Int×Unit:=bif de v w s then aB v w s else (v,s,0,())
def BP {n:Nat} (v:cU) (w:Int) (s:P_2) (hn:n<1000) (hv:kL n v) (hs:xW s) :
  F_2 (v,w,s,())=some (iY v w s)∧kL (n+1) (iY v w s).1∧xW (iY v w s).2.1∧List.length (iY v w s).2.1.2.1=List.length s.2.1∧(iY v w s).2.1.1=s.1∧(iY v w s).2.1.2.2=s.2.2:=by
 obtain ⟨e,h⟩:=kz v w s hs.cl
 unfold iY
 cases hb:de v w s with
 | true=>
  obtain ⟨h1,h2,h3⟩:=h hb
  exact step_eq v w s hn hv hs (e.trans (by rw [hb])) h1 h2 h3
 | false=>
  refine ⟨?_,hv.mono (Nat.le_succ _),hs,rfl,rfl,rfl⟩
  unfold F_2
  rw [hb] at e
  refine (aY e).trans ((aN rfl).trans ?_)
  unfold eP
  refine (aY (qv v (hv.cl (by omega)))).trans ?_
  exact aY (hU s hs.cl)
def gF:Nat→cU→Int→P_2→cU×P_2
 | 0,v,_,s=>(v,s)
 | n+1,v,w,s=>bif de v w s then gF n (aB v w s).1 w (aB v w s).2.1 else (v,s)
def vh {v:cU} {w:Int} {s:P_2} (h:de v w s=false):∀n,gF n v w s=(v,s)
 | 0=>rfl
 | n+1=>by
  show (bif de v w s then _ else (v,s))=(v,s)
  rw [h];rfl
structure A5 (w:Int) (m:Nat) (I:Nat→cU→P_2→Prop):Prop where
 good:∀{k v s},I k v s→kL 900 v∧xW s
 step:∀{k v s},k<m→I k v s→de v w s=true→qP s→1≤w→bG v w s→I (k+1) (aB v w s).1 (aB v w s).2.1
def pT (w:Int) (b m:Nat) (h:b+m≤900):A5 w m fun k v s=>k≤m∧kL (b+k) v∧xW s where
 good:=fun ⟨h1,h2,h3⟩=>⟨h2.mono (by omega),h3⟩
 step:=fun {k v s} hk ⟨h1,h2,h3⟩ hb hm hw hp=>by
  obtain ⟨e,_⟩:=kz v w s h3.cl
  obtain ⟨_,h4,h5,_⟩:=step_eq v w s (n:=b+k) (by omega) h2 h3 (e.trans (by rw [hb])) hm hw hp
  exact ⟨by omega,h4,h5⟩
def cZ (most:Int):Nat:=(if (10000:Int)<most then (10000:Int) else most).toNat
def zS {w:Int} {m:Nat} {I:Nat→cU→P_2→Prop} (h:A5 w m I) (v:cU) (s:P_2) (most:Int) (hm:cZ most≤m) (h0:I 0 v s) :
  rK (v,w,s,most,())=some ((gF (cZ most) v w s).1,(gF (cZ most) v w s).2,()):=by
 obtain ⟨hv,hs⟩:=h.good h0
 refine aa.of_eq (Q:=fun _=>True) (aa.of (Xt (v,w,s,most,())) ?_)
 refine aa.gj (qv v (hv.cl (by decide))) ?_
 refine aa.gj (hU s hs.cl) ?_
 have hcap:(if (10000:Int)<most then (10000:Int) else most)≤10000:=by split <;> omega
 have hN:cZ most≤10000:=by unfold cZ;omega
 generalize hc:(if (10000:Int)<most then (10000:Int) else most)=c at hcap
 have hNc:cZ most=c.toNat:=by unfold cZ;rw [hc]
 generalize cZ most=N at hm hN hNc
 refine aa.xb (aa.loop (Q:=fun r:(Unit×(((cU×Unit)×((P_2×Unit)×((cU×Unit)×((P_2×Unit)×Unit))))×Unit)) ⊕ Empty=>match r with | .inl y=>(y.2.1.1.1,y.2.1.2.1.1)=gF N v w s | .inr y=>False)
  (fun st=>∃(k:Nat) (v':cU) (s':P_2),st.1.1=w∧st.1.2.1=c∧st.1.2.2.1=(k:Int)∧st.2.1.1.1=v'∧st.2.1.2.1.1=s'∧k≤N∧I k v' s'∧gF (N - k) v' w s'=gF N v w s)
  (fun st=>N - st.1.2.2.1.toNat) (fun st hst=>?_) ⟨0,v,s,rfl,?_,rfl,rfl,rfl,Nat.zero_le _,h0,rfl⟩ ?_) (fun y hy=>?_)
 ·obtain ⟨⟨w',c',k',u1⟩,⟨⟨v',u2⟩,⟨s',u3⟩,X⟩,u4⟩:=st
  obtain ⟨k,v'',s'',e1,e2,e3,e4,e5,hk,hI,hr⟩:=hst
  have e1:w'=w:=e1
  have e2:c'=c:=e2
  have e3:k'=(k:Int):=e3
  have e4:v'=v'':=e4
  have e5:s'=s'':=e5
  subst e1 e2 e3 e4 e5
  obtain ⟨gv,gs⟩:=h.good hI
  refine aa.br (fun hl=>?_) (fun hl=>?_)
  ·have hl:(k:Int)<c':=of_decide_eq_true hl
   have hkN:k<N:=by omega
   obtain ⟨ea,hab⟩:=kz v' w' s' gs.cl
   obtain ⟨en,n1,n2,_⟩:=BP v' w' s' (n:=900) (by decide) gv gs
   refine aa.gj ea ?_
   refine aa.br (fun hb=>⟨_,rfl,?_⟩) (fun hb=>?_)
   ·have hb:de v' w' s'=false:=by
     have hb:(!de v' w' s')=true:=hb
     cases hx:de v' w' s' with
     | false=>rfl
     | true=>rw [hx] at hb;cases hb
    show (v',s')=_
    rw [← hr];exact (vh hb _).symm
   ·have hb:de v' w' s'=true:=zT hb
    obtain ⟨h1,h2,h3⟩:=hab hb
    have e9:iY v' w' s'=aB v' w' s':=by unfold iY;rw [hb];rfl
    rw [e9] at en
    refine aa.gj en (aa.gd (bS (by show _≤(k:Int)+1;omega) (by show (k:Int)+1≤_;omega)) ⟨_,rfl,⟨k+1,_,_,rfl,rfl,by show (k:Int)+1=((k+1:Nat):Int);omega,rfl,rfl,hkN,h.step (by omega) hI hb h1 h2 h3,?_⟩,?_⟩)
    ·rw [← hr]
     have e10:N - k=(N - (k+1))+1:=by omega
     rw [e10]
     show _=(bif de v' w' s' then gF (N - (k+1)) (aB v' w' s').1 w' (aB v' w' s').2.1 else (v',s'))
     rw [hb];rfl
    ·show N - ((k:Int)+1).toNat<N - (k:Int).toNat
     omega
  ·have hl:¬ (k:Int)<c':=of_decide_eq_false hl
   have e9:N - k=0:=by omega
   rw [e9] at hr
   exact ⟨_,rfl,hr⟩
 ·rfl
 ·show N - (0:Int).toNat<bn
  exact lg (by omega)
 ·match y,hy with
  | .inl y,hy=>
   have e1:y.2.1.1.1=(gF N v w s).1:=congrArg Prod.fst hy
   have e2:y.2.1.2.1.1=(gF N v w s).2:=congrArg Prod.snd hy
   refine ⟨_,rfl,?_⟩
   show (y.2.1.1.1,y.2.1.2.1)=_
   rw [← e1,← e2]
end Go.Proofs.YtdbjakibneeeiaaGreatDoor.Ex
end
