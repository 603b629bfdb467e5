/- Whether configs, transactions, accounts, shards, sights may be: the program and the document tell the same, purely. -/
import Derived.Test.YtdbjakibneeeiaaGreatDoorKG36ExPc
set_option linter.all false
set_option maxHeartbeats 4000000
set_option maxRecDepth 100000
namespace Go.Proofs.YtdbjakibneeeiaaGreatDoor.Ex
open Go.RowKit Sx
abbrev Says (o:Option (Bool×Unit)) (P:Prop):Prop:=aa o fun r=>r.1=true↔P
def Says.no {P:Prop} (h:¬ P):Says (some (false,())) P:=⟨_,rfl,⟨fun h=>(by cases h),fun k=>absurd k h⟩⟩
def Says.yes {P:Prop} (h:P):Says (some (true,())) P:=⟨_,rfl,⟨fun _=>h,fun _=>rfl⟩⟩
def Says.of {c:Bool} {P:Prop} (h:c=true↔P):Says (some (c,())) P:=⟨_,rfl,h⟩
def Says.iff {o:Option (Bool×Unit)} {P Q:Prop} (h:Says o P) (k:P↔Q):Says o Q:=h.mono fun _ h=>h.trans k
def Says.iG {c:Bool} {o:Option (Bool×Unit)} {A B:Prop} (hc:c=true↔A) (h:A→Says o B):Says (az c o (some (false,()))) (A∧B):=by
 cases c with
 | true=>exact (h (hc.1 rfl)).iff ⟨fun b=>⟨hc.1 rfl,b⟩,And.right⟩
 | false=>exact Says.no fun k=>by have:=hc.2 k.1;cases this
def Says.GC {c:Bool} {o:Option (Bool×Unit)} {A B:Prop} (hc:c=false↔A) (h:A→Says o B):Says (az c (some (false,())) o) (A∧B):=by
 cases c with
 | false=>exact (h (hc.1 rfl)).iff ⟨fun b=>⟨hc.1 rfl,b⟩,And.right⟩
 | true=>exact Says.no fun k=>by have:=hc.2 k.1;cases this
def Says.xb {o:Option (Bool×Unit)} {A B:Prop} {k:Bool×Unit→Option (Bool×Unit)} (ho:Says o A) (h:∀b:Bool,(b=true↔A)→Says (k (b,())) B):Says (xb o k) B:=by
 obtain ⟨⟨b,u⟩,e,hb⟩:=ho
 subst e
 exact h b hb
def iI {x y:Int}:(decide (x<y)==false)=true↔y≤x:=by simp
def Bh {x y:Int}:(decide (x>y)==false)=true↔x≤y:=by simp
def Ii {x y:Int}:(decide (x≥y)==false)=true↔x<y:=by simp
def Bv {x y:Int}:(decide (x≤y)==true)=true↔x≤y:=by simp
def tF {x y:Int}:(decide (x≥y)==true)=true↔y≤x:=by simp
def ri {x y:Int}:((x != y)==false)=true↔x=y:=by simp
def J1 {x y:Int}:((x==y)==true)=true↔x=y:=by simp
def DJ {x y:Int}:decide (x>y)=false↔x≤y:=by simp
def j_lt {x y:Int}:decide (x<y)=false↔y≤x:=by simp
def xx {x y:Int}:(x != y)=false↔x=y:=by simp
def LA {x y:Int}:decide (x≤y)=true↔x≤y:=by simp
def DQ {b:Bool} {A:Prop} (h:b=true↔A):((!b)==false)=true↔A:=by rw [← h];cases b <;> simp
def OR {b:Bool} {A:Prop} (h:b=true↔A):(!b)=false↔A:=by rw [← h];cases b <;> simp
def aa.allI {S R:Type} {step:S→Option (S ⊕ R)} (mk:Nat→S) (n:Nat) (no yes:R) (P:Nat→Prop) (hn:n≤9223372036854775807)
  (h:∀k,k<n→(∀j,j<k→P j)→aa (step (mk k)) fun x=>match x with | .inl s=>s=mk (k+1)∧P k | .inr r=>r=no∧¬ P k) (he:step (mk n)=some (.inr yes)) {s:S} (hs:s=mk 0) :
  aa (b6 step bn s) fun r=>(r=no∧¬ ∀k,k<n→P k)∨(r=yes∧∀k,k<n→P k):=by
 refine aa.idx mk (fun k=>∀j,j<k→P j) n hn (fun j h=>by omega) (fun k hk hI=>(h k hk hI).mono fun x hx=>?_) (fun hI=>?_) hs
 ·match x,hx with
  | .inl s,⟨h1,h2⟩=>exact ⟨h1,fun j hj=>by
    by_cases e:j=k
    ·subst e;exact h2
    ·exact hI j (by omega)⟩
  | .inr r,⟨h1,h2⟩=>exact .inl ⟨h1,fun c=>h2 (c k hk)⟩
 ·rw [he]
  exact ⟨_,rfl,.inr ⟨rfl,hI⟩⟩
def Aq (c:Mf):Prop:=1≤c.1∧c.1≤8∧1≤c.2.2.1∧c.2.2.1≤1000∧0≤c.2.1∧c.2.1≤c.2.2.1∧1≤c.2.2.2.1∧c.2.2.2.1≤16∧0≤c.2.2.2.2.1∧c.2.2.2.2.1≤100∧1≤c.2.2.2.2.2.1∧c.2.2.2.2.2.1≤16∧1≤c.2.2.2.2.2.2.1∧c.2.2.2.2.2.2.1≤4∧1≤c.2.2.2.2.2.2.2.1∧c.2.2.2.2.2.2.2.1≤8
def WL {x a b:Int}:((decide (a≤x)&&decide (x≤b))==true)=true↔a≤x∧x≤b:=by simp
def MU (c:Mf):Says (Nf (c,())) (Aq c):=by
 refine Says.iff (aa.of (Xf (c,())) ?_) (P:=(1≤c.1∧c.1≤8)∧(1≤c.2.2.1∧c.2.2.1≤1000)∧(0≤c.2.1∧c.2.1≤c.2.2.1)∧(1≤c.2.2.2.1∧c.2.2.2.1≤16)∧(0≤c.2.2.2.2.1∧c.2.2.2.2.1≤100)∧(1≤c.2.2.2.2.2.1∧c.2.2.2.2.2.1≤16)∧(1≤c.2.2.2.2.2.2.1∧c.2.2.2.2.2.2.1≤4)∧(1≤c.2.2.2.2.2.2.2.1∧c.2.2.2.2.2.2.2.1≤8)) (by unfold Aq;constructor <;> (intro h;omega))
 iterate 7
  refine aa.gj (yI _ _ _) (Says.iG WL fun _=>?_)
 refine aa.gj (yI _ _ _) (Says.of (by simp))
def OZ (c:Mf):Says (Fg (c,())) (Aq c):=by
 refine Says.iff (aa.of (Yq (c,())) (Says.iG iI fun _=>Says.iG Bh fun _=>Says.iG iI fun _=>Says.iG Bh fun _=>Says.iG iI fun _=>Says.iG Bh fun _=>Says.iG iI fun _=>Says.GC DJ fun _=>Says.iG tF fun _=>Says.iG Bv fun _=>Says.iG tF fun _=>Says.iG Bv fun _=>Says.iG tF fun _=>Says.iG Bv fun _=>Says.iG tF fun _=>Says.of LA)) (?_)
 unfold Aq
 dsimp only
 constructor <;> (intro h;omega)
def Qq (t:xu):Prop:=0≤t.1∧t.1≤255∧0≤t.2.1∧t.2.1≤4294967295∧0≤t.2.2.1∧t.2.2.1≤1099511627776∧t.2.2.1≤t.2.2.2.1∧t.2.2.2.1≤1099511627776∧1≤t.2.2.2.2.1∧t.2.2.2.2.1≤1073741824∧ByteArray.size t.2.2.2.2.2.1≤256
def R4 (t:xu):Says (KK (t,())) (Qq t):=by
 rw [UW]
 exact Says.of decide_eq_true_iff
def R3 (t:xu):Says (Mp (t,())) (Qq t):=by
 refine Says.iff (aa.of (Xl (t,())) (Says.iG iI fun _=>Says.iG Bh fun _=>Says.iG iI fun _=>Says.iG Ii fun _=>Says.iG iI fun _=>Says.iG Bh fun _=>Says.GC DJ fun _=>Says.iG tF fun _=>Says.iG Bv fun _=>Says.of LA)) (?_)
 unfold Qq
 dsimp only
 constructor <;> (intro h;omega)
abbrev nZ:xu:=((0:Int),(0:Int),(0:Int),(0:Int),(0:Int),ByteArray.empty,())
abbrev cI:dc:=((0:Int),(0:Int),[],())
def oG (L:List xu) (i:Nat):xu:=L.getD i nZ
def vv (s b:Int) (L:List xu) (i:Nat):Prop:=Qq (oG L i)∧(oG L i).1=s∧b≤(oG L i).2.1∧(0<i→(oG L (i - 1)).2.1<(oG L i).2.1)
def CF (a:dc) (per:Int):Prop:=0≤a.1∧a.1≤255∧0≤a.2.1∧a.2.1≤4294967295∧1≤per∧per≤16∧(List.length a.2.2.1:Int)≤per∧∀i,i<List.length a.2.2.1→vv a.1 a.2.1 a.2.2.1 i
def Ip (a:dc) (h:List.length a.2.2.1≤1000000):Says (NY (a,())) (∀i,i<List.length a.2.2.1→vv a.1 a.2.1 a.2.2.1 i):=by
 refine aa.of (Xb (a,())) ?_
 obtain ⟨s,b,L,u⟩:=a
 have hL:L.length≤9223372036854775807:=Nat.le_trans h (by decide)
 let nx:Nat→Int:=fun k=>match k with | 0=>b | k+1=>(oG L k).2.1+1
 refine aa.xb (aa.allI (fun k=>((nx k,L,(L.length:Int),(k:Int),()),(((s,b,L,u),()),()),())) L.length (.inl ((false,()),(),())) (.inr (.inl ((),(),()))) (vv s b L) hL (fun k hk hI=>?_) ?_ rfl) (fun y hy=>?_)
 ·refine aa.br (fun _=>?_) (fun h=>absurd (cr hk) (by rw [h];simp))
  refine aa.gd (b9 hk) (aa.gd (bf hk) ?_)
  have ek:L.getD (Int.toNat (k:Int)) nZ=oG L k:=by rw [Int.toNat_natCast];rfl
  have hnx:∀m:Int,(nx k≤m∧b≤m)↔(b≤m∧(0<k→(oG L (k - 1)).2.1<m)):=by
   intro m
   cases k with
   | zero=>show (b≤m∧b≤m)↔_;omega
   | succ k=>show ((oG L k).2.1+1≤m∧b≤m)↔(b≤m∧(0<k+1→(oG L k).2.1<m));omega
  have hb:b≤nx k:=by
   cases k with
   | zero=>exact Int.le_refl _
   | succ k=>
    have:=(hI k (by omega)).2.2.1
    show b≤(oG L k).2.1+1
    omega
  obtain ⟨⟨c,u2⟩,ec,hc⟩:=R4 (oG L k)
  have ec2:KK (L.getD (Int.toNat (k:Int)) nZ,())=some (c,()):=by rw [ek];exact ec
  refine aa.gj ec2 ?_
  have hs1:(L.getD (Int.toNat (k:Int)) nZ).1=(oG L k).1:=by rw [ek]
  have hs2:(L.getD (Int.toNat (k:Int)) nZ).2.1=(oG L k).2.1:=by rw [ek]
  refine aa.br (fun h1=>?_) (fun h1=>⟨_,rfl,rfl,fun r=>?_⟩)
  rotate_left
  ·rw [(DQ hc).2 r.1] at h1;cases h1
  have h1:=(DQ hc).1 h1
  refine aa.br (fun h2=>?_) (fun h2=>⟨_,rfl,rfl,fun r=>?_⟩)
  rotate_left
  ·rw [ri.2 (hs1.trans r.2.1)] at h2;cases h2
  have h2:=hs1.symm.trans (ri.1 h2)
  refine aa.br (fun h3=>⟨_,rfl,rfl,fun r=>?_⟩) (fun h3=>?_)
  ·have h3:(oG L k).2.1<nx k:=by rw [← hs2];exact of_decide_eq_true h3
   have:=(hnx (oG L k).2.1).2 ⟨r.2.2.1,r.2.2.2⟩
   omega
  ·have h3:nx k≤(oG L k).2.1:=by rw [← hs2];exact j_lt.1 h3
   have h4:=(hnx (oG L k).2.1).1 ⟨h3,by omega⟩
   have n0:=h1.2.2.1
   have n1:=h1.2.2.2.1
   refine aa.gd (bS (by show _≤(L.getD (Int.toNat (k:Int)) nZ).2.1+1;rw [hs2];omega) (by show (L.getD (Int.toNat (k:Int)) nZ).2.1+1≤_;rw [hs2];omega)) (aa.gd (aU hk hL) ⟨_,rfl,?_,h1,h2,h4.1,h4.2⟩)
   show (((L.getD (Int.toNat (k:Int)) nZ).2.1+1,_,_,(k:Int)+1,()),_,())=(((oG L k).2.1+1,_,_,((k+1:Nat):Int),()),_,())
   rw [hs2];rfl
 ·exact aN cq
 ·rcases hy with ⟨rfl,hn⟩ | ⟨rfl,hn⟩
  ·exact Says.no hn
  ·exact Says.yes hn
def J5 (a:dc) (per:Int) (h:List.length a.2.2.1≤1000000):Says (ID (a,per,())) (CF a per):=by
 have w_N:∀{x a b:Int},((!(decide (a≤x)&&decide (x≤b)))==false)=true↔a≤x∧x≤b:=by intro x a b;simp
 have w_J:∀{x a b:Int},(!(decide (a≤x)&&decide (x≤b)))=false↔a≤x∧x≤b:=by intro x a b;simp
 refine Says.iff (aa.of (Yk (a,per,())) ?_) (P:=(0≤a.1∧a.1≤255)∧(0≤a.2.1∧a.2.1≤4294967295)∧(1≤per∧per≤16)∧(List.length a.2.2.1:Int)≤per∧∀i,i<List.length a.2.2.1→vv a.1 a.2.1 a.2.2.1 i) ?_
 ·refine aa.gj (th _ _ _) (Says.iG w_N fun _=>?_)
  refine aa.gj (th _ _ _) (Says.iG w_N fun _=>?_)
  refine aa.gj (th _ _ _) (Says.GC w_J fun _=>?_)
  refine Says.iG Bv fun _=>?_
  exact Says.xb (Ip a h) fun b hb=>Says.of hb
 ·unfold CF
  constructor
  ·rintro ⟨⟨a1,a2⟩,⟨a3,a4⟩,⟨a5,a6⟩,a7,a8⟩;exact ⟨a1,a2,a3,a4,a5,a6,a7,a8⟩
  ·rintro ⟨a1,a2,a3,a4,a5,a6,a7,a8⟩;exact ⟨⟨a1,a2⟩,⟨a3,a4⟩,⟨a5,a6⟩,a7,a8⟩
def NK (a:dc) (per:Int) (h:List.length a.2.2.1≤1000000):Says (MH (a,per,())) (CF a per):=by
 have hL:List.length a.2.2.1≤9223372036854775807:=Nat.le_trans h (by decide)
 refine Says.iff (aa.of (WQ (a,per,())) (Says.iG iI fun _=>Says.iG Bh fun _=>Says.iG iI fun _=>Says.iG Ii fun _=>Says.iG iI fun _=>Says.iG Bh fun _=>Says.GC DJ fun _=>?_)) (P:=0≤a.1∧a.1≤255∧0≤a.2.1∧a.2.1<4294967296∧1≤per∧per≤16∧(List.length a.2.2.1:Int)≤per∧∀i,i<List.length a.2.2.1→vv a.1 a.2.1 a.2.2.1 i) ?_
 rotate_left
 ·unfold CF
  constructor
  ·rintro ⟨a1,a2,a3,a4,a5,a6,a7,a8⟩;exact ⟨a1,a2,a3,by omega,a5,a6,a7,a8⟩
  ·rintro ⟨a1,a2,a3,a4,a5,a6,a7,a8⟩;exact ⟨a1,a2,a3,by omega,a5,a6,a7,a8⟩
 obtain ⟨s,b,L,u⟩:=a
 refine aa.xb (aa.allI (fun k=>(((k:Int),()),(((s,b,L,u),()),()),())) L.length (.inl ((false,()),(),())) (.inr (.inl ((),(),()))) (vv s b L) hL (fun k hk hI=>?_) ?_ rfl) (fun y hy=>?_)
 ·refine aa.br (fun _=>?_) (fun h=>absurd (cr hk) (by rw [h];simp))
  refine aa.gd (b9 hk) (aa.gd (bf hk) ?_)
  have ek:L.getD (Int.toNat (k:Int)) nZ=oG L k:=by rw [Int.toNat_natCast];rfl
  obtain ⟨⟨c,u2⟩,ec,hc⟩:=R3 (oG L k)
  have ec2:Mp (L.getD (Int.toNat (k:Int)) nZ,())=some (c,()):=by rw [ek];exact ec
  refine aa.gj ec2 ?_
  have hs1:(L.getD (Int.toNat (k:Int)) nZ).1=(oG L k).1:=by rw [ek]
  have hs2:(L.getD (Int.toNat (k:Int)) nZ).2.1=(oG L k).2.1:=by rw [ek]
  refine aa.br (fun h1=>?_) (fun h1=>⟨_,rfl,rfl,fun r=>?_⟩)
  rotate_left
  ·rw [(DQ hc).2 r.1] at h1;cases h1
  have h1:=(DQ hc).1 h1
  refine aa.br (fun h2=>?_) (fun h2=>⟨_,rfl,rfl,fun r=>?_⟩)
  rotate_left
  ·rw [ri.2 (hs1.trans r.2.1)] at h2;cases h2
  have h2:=hs1.symm.trans (ri.1 h2)
  refine aa.br (fun h3=>?_) (fun h3=>⟨_,rfl,rfl,fun r=>?_⟩)
  rotate_left
  ·have:b≤(L.getD (Int.toNat (k:Int)) nZ).2.1:=by rw [hs2];exact r.2.2.1
   rw [iI.2 this] at h3;cases h3
  have h3:b≤(oG L k).2.1:=by rw [← hs2];exact iI.1 h3
  refine aa.br (fun hp=>?_) (fun hp=>?_)
  ·have hp:(0:Int)<(k:Int):=of_decide_eq_true (eq_of_beq hp)
   have e1:Int.toNat ((k:Int) - 1)=k - 1:=by omega
   have hkL:L.length≤1000000:=h
   refine aa.gd (bS (by show _≤(k:Int) - 1;omega) (by show (k:Int) - 1≤_;omega)) ?_
   refine aa.gd (bC.2 ⟨by show (0:Int)≤(k:Int) - 1;omega,by show (k:Int) - 1<(L.length:Int);omega⟩) (aa.gd (decide_eq_true (by show Int.toNat ((k:Int) - 1)<L.length;omega)) ?_)
   have ep:(L.getD (Int.toNat ((k:Int) - 1)) nZ).2.1=(oG L (k - 1)).2.1:=by rw [e1];rfl
   refine aa.br (fun h4=>⟨_,rfl,rfl,fun r=>?_⟩) (fun h4=>?_)
   ·have h4:(oG L k).2.1≤(oG L (k - 1)).2.1:=by rw [← hs2,← ep];exact of_decide_eq_true h4
    have:=r.2.2.2 (by omega)
    omega
   ·have h4:¬ (oG L k).2.1≤(oG L (k - 1)).2.1:=by rw [← hs2,← ep];exact of_decide_eq_false h4
    exact aa.gd (aU hk hL) ⟨_,rfl,rfl,h1,h2,h3,fun _=>Int.not_le.1 h4⟩
  ·have hp:¬ (0:Int)<(k:Int):=fun c=>by have hp:(decide ((k:Int)>0)==true)=false:=hp;rw [decide_eq_true c] at hp;cases hp
   exact aa.gd (aU hk hL) ⟨_,rfl,rfl,h1,h2,h3,fun c=>by omega⟩
 ·exact aN cq
 ·rcases hy with ⟨rfl,hn⟩ | ⟨rfl,hn⟩
  ·exact Says.no hn
  ·exact Says.yes hn
def ER (a:dc):Prop:=a.2.1=0∧List.length a.2.2.1=0
def mz (L:List dc) (i:Nat):dc:=L.getD i cI
def Nv (k per n:Int) (L:List dc) (i:Nat):Prop:=CF (mz L i) per∧¬ ER (mz L i)∧mL.fE (mz L i).1 n=k∧(0<i→(mz L (i - 1)).1<(mz L i).1)
def Ag (c:cQ) (k:Int) (g:Mf):Prop:=0≤c.2.1∧c.2.1≤1099511627776∧∀i,i<List.length c.1→Nv k g.2.2.2.1 g.1 c.1 i
def IG (a:dc) (per:Int) (h:CF a per):Says (Jd (a,())) (ER a):=by
 refine Says.iff (aa.of (XX (a,())) (Says.iG Bv fun _=>Says.of (beq_iff_eq (α:=Int)))) ?_
 have:=h.2.2.1
 unfold ER
 dsimp only
 constructor <;> (intro h;omega)
def Pe (a:dc):Says (Mm (a,())) (ER a):=by
 refine Says.iff (aa.of (Yj (a,())) (Says.iG J1 fun _=>Says.of (beq_iff_eq (α:=Int)))) ?_
 unfold ER
 dsimp only
 constructor <;> (intro h;omega)
def GO (s n:Int):MC (s,n,())=some (mL.fE s n,()):=by unfold MC;rfl
def CO {b:Bool} {A:Prop} (h:b=true↔A):(b==false)=true↔¬ A:=by rw [← h];cases b <;> simp
def PR (c:cQ) (k:Int) (g:Mf) (h:List.length c.1≤1000000) (h2:∀a:dc,a∈c.1→List.length a.2.2.1≤1000000):Says (MK (c,k,g,())) (Ag c k g):=by
 refine Says.iff (aa.of (Yc (c,k,g,())) (Says.iG iI fun _=>Says.GC DJ fun _=>?_)) (P:=0≤c.2.1∧c.2.1≤1099511627776∧∀i,i<List.length c.1→Nv k g.2.2.2.1 g.1 c.1 i) Iff.rfl
 obtain ⟨L,v,u⟩:=c
 have hL:L.length≤9223372036854775807:=Nat.le_trans h (by decide)
 refine aa.xb (aa.allI (fun i=>((k,L,(L.length:Int),(i:Int),()),(((L,v,u),()),(g,()),()),())) L.length (.inl ((false,()),(),())) (.inr (.inl ((),(),()))) (Nv k g.2.2.2.1 g.1 L) hL (fun i hi hI=>?_) ?_ rfl) (fun y hy=>?_)
 ·refine aa.br (fun _=>?_) (fun h=>absurd (cr hi) (by rw [h];simp))
  refine aa.gd (b9 hi) (aa.gd (bf hi) ?_)
  have ek:L.getD (Int.toNat (i:Int)) cI=mz L i:=by rw [Int.toNat_natCast];rfl
  have hm:mz L i∈L:=by unfold mz;rw [bE hi];exact List.getElem_mem hi
  refine aa.br (fun hp=>?_) (fun hp=>?_)
  ·have hp:(0:Int)<(i:Int):=of_decide_eq_true (eq_of_beq hp)
   have e1:Int.toNat ((i:Int) - 1)=i - 1:=by omega
   refine aa.gd (bS (by show _≤(i:Int) - 1;omega) (by show (i:Int) - 1≤_;omega)) ?_
   refine aa.gd (bC.2 ⟨by show (0:Int)≤(i:Int) - 1;omega,by show (i:Int) - 1<(L.length:Int);omega⟩) (aa.gd (decide_eq_true (by show Int.toNat ((i:Int) - 1)<L.length;omega)) ?_)
   have ep:L.getD (Int.toNat ((i:Int) - 1)) cI=mz L (i - 1):=by rw [e1];rfl
   refine aa.br (fun h4=>⟨_,rfl,rfl,fun r=>?_⟩) (fun h4=>?_)
   ·have h4:(mz L i).1≤(mz L (i - 1)).1:=by rw [← ek,← ep];exact of_decide_eq_true h4
    have:=r.2.2.2 (by omega)
    omega
   ·have h4:¬ (mz L i).1≤(mz L (i - 1)).1:=by rw [← ek,← ep];exact of_decide_eq_false h4
    have h4:0<i→(mz L (i - 1)).1<(mz L i).1:=fun _=>by omega
    obtain ⟨⟨b1,u1⟩,e1,hb1⟩:=J5 (mz L i) g.2.2.2.1 (h2 _ hm)
    have e1:ID (L.getD (Int.toNat (i:Int)) cI,g.2.2.2.1,())=some (b1,()):=by rw [ek];exact e1
    refine aa.gj e1 ?_
    refine aa.br (fun h1=>?_) (fun h1=>⟨_,rfl,rfl,fun r=>?_⟩)
    rotate_left
    ·rw [(DQ hb1).2 r.1] at h1;cases h1
    have h1:=(DQ hb1).1 h1
    obtain ⟨⟨b2,u2⟩,e2,hb2⟩:=IG (mz L i) _ h1
    have e2:Jd (L.getD (Int.toNat (i:Int)) cI,())=some (b2,()):=by rw [ek];exact e2
    refine aa.gj e2 ?_
    refine aa.br (fun h2=>?_) (fun h2=>⟨_,rfl,rfl,fun r=>?_⟩)
    rotate_left
    ·rw [(CO hb2).2 r.2.1] at h2;cases h2
    have h2:=(CO hb2).1 h2
    have e3:Jn ((L.getD (Int.toNat (i:Int)) cI).1,g.1,())=some (mL.fE (mz L i).1 g.1,()):=by rw [ek];exact C7 _ _
    refine aa.gj e3 ?_
    refine aa.br (fun h3=>⟨_,rfl,rfl,fun r=>?_⟩) (fun h3=>?_)
    ·rw [xx.2 r.2.2.1] at h3;cases h3
    ·exact aa.gd (aU hi hL) ⟨_,rfl,rfl,h1,h2,xx.1 h3,h4⟩
  ·have hp:¬ (0:Int)<(i:Int):=fun c=>by have hp:(decide ((i:Int)>0)==true)=false:=hp;rw [decide_eq_true c] at hp;cases hp
   have h4:0<i→(mz L (i - 1)).1<(mz L i).1:=fun c=>by omega
   obtain ⟨⟨b1,u1⟩,e1,hb1⟩:=J5 (mz L i) g.2.2.2.1 (h2 _ hm)
   have e1:ID (L.getD (Int.toNat (i:Int)) cI,g.2.2.2.1,())=some (b1,()):=by rw [ek];exact e1
   refine aa.gj e1 ?_
   refine aa.br (fun h1=>?_) (fun h1=>⟨_,rfl,rfl,fun r=>?_⟩)
   rotate_left
   ·rw [(DQ hb1).2 r.1] at h1;cases h1
   have h1:=(DQ hb1).1 h1
   obtain ⟨⟨b2,u2⟩,e2,hb2⟩:=IG (mz L i) _ h1
   have e2:Jd (L.getD (Int.toNat (i:Int)) cI,())=some (b2,()):=by rw [ek];exact e2
   refine aa.gj e2 ?_
   refine aa.br (fun h2=>?_) (fun h2=>⟨_,rfl,rfl,fun r=>?_⟩)
   rotate_left
   ·rw [(CO hb2).2 r.2.1] at h2;cases h2
   have h2:=(CO hb2).1 h2
   have e3:Jn ((L.getD (Int.toNat (i:Int)) cI).1,g.1,())=some (mL.fE (mz L i).1 g.1,()):=by rw [ek];exact C7 _ _
   refine aa.gj e3 ?_
   refine aa.br (fun h3=>⟨_,rfl,rfl,fun r=>?_⟩) (fun h3=>?_)
   ·rw [xx.2 r.2.2.1] at h3;cases h3
   ·exact aa.gd (aU hi hL) ⟨_,rfl,rfl,h1,h2,xx.1 h3,h4⟩
 ·exact aN cq
 ·rcases hy with ⟨rfl,hn⟩ | ⟨rfl,hn⟩
  ·exact Says.no hn
  ·exact Says.yes hn
def Nx (c:cQ) (k:Int) (g:Mf) (h:List.length c.1≤1000000) (h2:∀a:dc,a∈c.1→List.length a.2.2.1≤1000000):Says (Mt (c,k,g,())) (Ag c k g):=by
 refine Says.iff (aa.of (XH (c,k,g,())) (Says.iG iI fun _=>Says.GC DJ fun _=>?_)) (P:=0≤c.2.1∧c.2.1≤1099511627776∧∀i,i<List.length c.1→Nv k g.2.2.2.1 g.1 c.1 i) Iff.rfl
 obtain ⟨L,v,u⟩:=c
 have hL:L.length≤9223372036854775807:=Nat.le_trans h (by decide)
 refine aa.xb (aa.allI (fun i=>((k,(i:Int),()),(((L,v,u),()),(g,()),()),())) L.length (.inl ((false,()),(),())) (.inr (.inl ((),(),()))) (Nv k g.2.2.2.1 g.1 L) hL (fun i hi hI=>?_) ?_ rfl) (fun y hy=>?_)
 ·refine aa.br (fun _=>?_) (fun h=>absurd (cr hi) (by rw [h];simp))
  refine aa.gd (b9 hi) (aa.gd (bf hi) ?_)
  have ek:L.getD (Int.toNat (i:Int)) cI=mz L i:=by rw [Int.toNat_natCast];rfl
  have hm:mz L i∈L:=by unfold mz;rw [bE hi];exact List.getElem_mem hi
  obtain ⟨⟨b1,u1⟩,e1,hb1⟩:=NK (mz L i) g.2.2.2.1 (h2 _ hm)
  have e1:MH (L.getD (Int.toNat (i:Int)) cI,g.2.2.2.1,())=some (b1,()):=by rw [ek];exact e1
  refine aa.gj e1 ?_
  refine aa.br (fun h1=>?_) (fun h1=>⟨_,rfl,rfl,fun r=>?_⟩)
  rotate_left
  ·rw [(DQ hb1).2 r.1] at h1;cases h1
  have h1:=(DQ hb1).1 h1
  obtain ⟨⟨b2,u2⟩,e2,hb2⟩:=Pe (mz L i)
  have e2:Mm (L.getD (Int.toNat (i:Int)) cI,())=some (b2,()):=by rw [ek];exact e2
  refine aa.gj e2 ?_
  refine aa.br (fun h2=>?_) (fun h2=>⟨_,rfl,rfl,fun r=>?_⟩)
  rotate_left
  ·rw [(CO hb2).2 r.2.1] at h2;cases h2
  have h2:=(CO hb2).1 h2
  have e3:MC ((L.getD (Int.toNat (i:Int)) cI).1,g.1,())=some (mL.fE (mz L i).1 g.1,()):=by rw [ek];exact GO _ _
  refine aa.gj e3 ?_
  refine aa.br (fun h3=>?_) (fun h3=>⟨_,rfl,rfl,fun r=>?_⟩)
  rotate_left
  ·rw [ri.2 r.2.2.1] at h3;cases h3
  have h3:=ri.1 h3
  refine aa.br (fun hp=>?_) (fun hp=>?_)
  ·have hp:(0:Int)<(i:Int):=of_decide_eq_true (eq_of_beq hp)
   have e1:Int.toNat ((i:Int) - 1)=i - 1:=by omega
   refine aa.gd (bS (by show _≤(i:Int) - 1;omega) (by show (i:Int) - 1≤_;omega)) ?_
   refine aa.gd (bC.2 ⟨by show (0:Int)≤(i:Int) - 1;omega,by show (i:Int) - 1<(L.length:Int);omega⟩) (aa.gd (decide_eq_true (by show Int.toNat ((i:Int) - 1)<L.length;omega)) ?_)
   have ep:L.getD (Int.toNat ((i:Int) - 1)) cI=mz L (i - 1):=by rw [e1];rfl
   refine aa.br (fun h4=>⟨_,rfl,rfl,fun r=>?_⟩) (fun h4=>?_)
   ·have h4:(mz L i).1≤(mz L (i - 1)).1:=by rw [← ek,← ep];exact of_decide_eq_true h4
    have:=r.2.2.2 (by omega)
    omega
   ·have h4:¬ (mz L i).1≤(mz L (i - 1)).1:=by rw [← ek,← ep];exact of_decide_eq_false h4
    exact aa.gd (aU hi hL) ⟨_,rfl,rfl,h1,h2,h3,fun _=>by omega⟩
  ·have hp:¬ (0:Int)<(i:Int):=fun c=>by have hp:(decide ((i:Int)>0)==true)=false:=hp;rw [decide_eq_true c] at hp;cases hp
   exact aa.gd (aU hi hL) ⟨_,rfl,rfl,h1,h2,h3,fun c=>by omega⟩
 ·exact aN cq
 ·rcases hy with ⟨rfl,hn⟩ | ⟨rfl,hn⟩
  ·exact Says.no hn
  ·exact Says.yes hn
def GA (L:List Int) (i:Nat):Int:=L.getD i 0
def CY (L:List cQ) (i:Nat):cQ:=L.getD i noShd where noShd:=([],(0:Int),())
def IM (s:P_2):Prop:=Aq s.1∧(List.length s.2.1:Int)=s.1.1∧(List.length s.2.2.2.1:Int)=s.1.1∧s.2.2.1.2.1=s.1.2.2.1∧0≤s.2.2.1.1∧s.2.2.1.1≤s.1.2.2.1∧∀i,i<List.length s.2.1→0≤GA s.2.1 i∧Ag (CY s.2.2.2.1 i) (i:Int) s.1
def IE (s:P_2) (h:uP s):Says (LD (s,())) (IM s):=by
 refine Says.iff (aa.of (Xn (s,())) (Says.xb (MU s.1) fun b hb=>Says.iG (DQ hb) fun _=>Says.iG ri fun h2=>Says.GC xx fun h3=>?_)) (P:=Aq s.1∧(List.length s.2.1:Int)=s.1.1∧(List.length s.2.2.2.1:Int)=s.1.1∧((∀i,i<List.length s.2.1→0≤GA s.2.1 i∧Ag (CY s.2.2.2.1 i) (i:Int) s.1)∧s.2.2.1.2.1=s.1.2.2.1∧0≤s.2.2.1.1∧s.2.2.1.1≤s.1.2.2.1)) ?_
 rotate_left
 ·unfold IM
  constructor
  ·rintro ⟨a1,a2,a3,a4,a5,a6,a7⟩;exact ⟨a1,a2,a3,a5,a6,a7,a4⟩
  ·rintro ⟨a1,a2,a3,a4,a5,a6,a7⟩;exact ⟨a1,a2,a3,a7,a4,a5,a6⟩
 have h2:(List.length s.2.1:Int)=s.1.1:=h2
 have h3:(List.length s.2.2.2.1:Int)=s.1.1:=h3
 have hn:List.length s.2.2.2.1=List.length s.2.1:=by omega
 have hL:List.length s.2.1≤9223372036854775807:=Nat.le_trans h.1 (by decide)
 refine aa.xb (aa.allI (fun i=>((s.1.1,(i:Int),()),(((s,()),()),()))) (List.length s.2.1) (.inl ((false,()),(),())) (.inr (.inl ((),(((s,()),()),())))) (fun i=>0≤GA s.2.1 i∧Ag (CY s.2.2.2.1 i) (i:Int) s.1) hL (fun i hi hI=>?_) ?_ rfl) (fun y hy=>?_)
 ·have hl:decide ((i:Int)<s.1.1)=true:=decide_eq_true (by omega)
  refine aa.br (fun _=>?_) (fun h=>absurd hl (by rw [h];simp))
  refine aa.gd (b9 hi) (aa.gd (bf hi) ?_)
  have hi2:i<List.length s.2.2.2.1:=by omega
  have e0:(s.2.1:List Int).getD (Int.toNat (i:Int)) 0=GA s.2.1 i:=by rw [Int.toNat_natCast];rfl
  refine aa.br (fun h0=>?_) (fun h0=>⟨_,rfl,rfl,fun r=>?_⟩)
  rotate_left
  ·rw [iI.2 (by rw [e0];exact r.1)] at h0;cases h0
  have h0:0≤GA s.2.1 i:=by rw [← e0];exact iI.1 h0
  refine aa.gd (b9 hi2) (aa.gd (bf hi2) ?_)
  have eg:(s.2.2.2.1:List cQ).getD (Int.toNat (i:Int)) ([],(0:Int),())=CY s.2.2.2.1 i:=by rw [Int.toNat_natCast];rfl
  have hm:CY s.2.2.2.1 i∈(s.2.2.2.1:List cQ):=by unfold CY;rw [bE hi2];exact List.getElem_mem hi2
  obtain ⟨⟨b1,u1⟩,e1,hb1⟩:=PR (CY s.2.2.2.1 i) (i:Int) s.1 (h.2.2 _ hm).1 (h.2.2 _ hm).2
  have e1:MK ((s.2.2.2.1:List cQ).getD (Int.toNat (i:Int)) ([],(0:Int),()),(i:Int),s.1,())=some (b1,()):=by rw [eg];exact e1
  refine aa.gj e1 ?_
  refine aa.br (fun h1=>⟨_,rfl,rfl,fun r=>?_⟩) (fun h1=>?_)
  ·rw [(OR hb1).2 r.2] at h1;cases h1
  ·exact aa.gd (aU hi hL) ⟨_,rfl,rfl,h0,(OR hb1).1 h1⟩
 ·have hl:decide (((List.length s.2.1:Nat):Int)<s.1.1)=false:=decide_eq_false (by omega)
  exact aN hl
 ·rcases hy with ⟨rfl,hx⟩ | ⟨rfl,hx⟩
  ·exact Says.no fun k=>hx k.1
  ·refine Says.iff (P:=s.2.2.1.2.1=s.1.2.2.1∧0≤s.2.2.1.1∧s.2.2.1.1≤s.1.2.2.1) ?_ ⟨fun k=>⟨hx,k⟩,And.right⟩
   exact Says.iG J1 fun _=>Says.iG Bv fun _=>Says.of LA
def OD (s:P_2) (h:uP s):Says (NI (s,())) (IM s):=by
 refine Says.iff (aa.of (Yl (s,())) (Says.xb (OZ s.1) fun b hb=>Says.iG (DQ hb) fun _=>Says.iG ri fun h2=>Says.iG ri fun h3=>Says.iG ri fun _=>Says.iG iI fun _=>Says.GC DJ fun _=>?_)) (P:=Aq s.1∧(List.length s.2.1:Int)=s.1.1∧(List.length s.2.2.2.1:Int)=s.1.1∧s.2.2.1.2.1=s.1.2.2.1∧0≤s.2.2.1.1∧s.2.2.1.1≤s.1.2.2.1∧∀i,i<List.length s.2.1→0≤GA s.2.1 i∧Ag (CY s.2.2.2.1 i) (i:Int) s.1) Iff.rfl
 have h2:(List.length s.2.1:Int)=s.1.1:=h2
 have h3:(List.length s.2.2.2.1:Int)=s.1.1:=h3
 have hn:List.length s.2.2.2.1=List.length s.2.1:=by omega
 have hL:List.length s.2.1≤9223372036854775807:=Nat.le_trans h.1 (by decide)
 refine aa.xb (aa.allI (fun i=>(((i:Int),()),(((s,()),(s.1,()),()),()))) (List.length s.2.1) (.inl ((false,()),(),())) (.inr (.inl ((),(),()))) (fun i=>0≤GA s.2.1 i∧Ag (CY s.2.2.2.1 i) (i:Int) s.1) hL (fun i hi hI=>?_) ?_ rfl) (fun y hy=>?_)
 ·have hl:decide ((i:Int)<s.1.1)=true:=decide_eq_true (by omega)
  refine aa.br (fun _=>?_) (fun h=>absurd hl (by rw [h];simp))
  refine aa.gd (b9 hi) (aa.gd (bf hi) ?_)
  have hi2:i<List.length s.2.2.2.1:=by omega
  have e0:(s.2.1:List Int).getD (Int.toNat (i:Int)) 0=GA s.2.1 i:=by rw [Int.toNat_natCast];rfl
  refine aa.br (fun h0=>?_) (fun h0=>⟨_,rfl,rfl,fun r=>?_⟩)
  rotate_left
  ·rw [iI.2 (by rw [e0];exact r.1)] at h0;cases h0
  have h0:0≤GA s.2.1 i:=by rw [← e0];exact iI.1 h0
  refine aa.gd (b9 hi2) (aa.gd (bf hi2) ?_)
  have eg:(s.2.2.2.1:List cQ).getD (Int.toNat (i:Int)) ([],(0:Int),())=CY s.2.2.2.1 i:=by rw [Int.toNat_natCast];rfl
  have hm:CY s.2.2.2.1 i∈(s.2.2.2.1:List cQ):=by unfold CY;rw [bE hi2];exact List.getElem_mem hi2
  obtain ⟨⟨b1,u1⟩,e1,hb1⟩:=Nx (CY s.2.2.2.1 i) (i:Int) s.1 (h.2.2 _ hm).1 (h.2.2 _ hm).2
  have e1:Mt ((s.2.2.2.1:List cQ).getD (Int.toNat (i:Int)) ([],(0:Int),()),(i:Int),s.1,())=some (b1,()):=by rw [eg];exact e1
  refine aa.gj e1 ?_
  refine aa.br (fun h1=>⟨_,rfl,rfl,fun r=>?_⟩) (fun h1=>?_)
  ·rw [(OR hb1).2 r.2] at h1;cases h1
  ·exact aa.gd (aU hi hL) ⟨_,rfl,rfl,h0,(OR hb1).1 h1⟩
 ·have hl:decide (((List.length s.2.1:Nat):Int)<s.1.1)=false:=decide_eq_false (by omega)
  exact aN hl
 ·rcases hy with ⟨rfl,hx⟩ | ⟨rfl,hx⟩
  ·exact Says.no hx
  ·exact Says.yes hx
end Go.Proofs.YtdbjakibneeeiaaGreatDoor.Ex
