/- Whether configs, transactions, accounts, shards, sights may be: the program and the document tell the same, purely. -/
import Derived.Test.YtdbjakibneeeiaaGreatDoorKG40ExPi
set_option linter.all false
set_option maxHeartbeats 4000000
set_option maxRecDepth 100000
namespace Go.Proofs.YtdbjakibneeeiaaGreatDoor.Ex
open Go.RowKit Sx
abbrev Says (o:Option (Bool×Unit)) (P:Prop):Prop:=Tells o fun r=>r.1=true↔P
theorem Says.no {P:Prop} (h:¬ P):Says (some (false,())) P:=⟨_,rfl,⟨fun h=>(by cases h),fun k=>absurd k h⟩⟩
theorem Says.yes {P:Prop} (h:P):Says (some (true,())) P:=⟨_,rfl,⟨fun _=>h,fun _=>rfl⟩⟩
theorem Says.of {c:Bool} {P:Prop} (h:c=true↔P):Says (some (c,())) P:=⟨_,rfl,h⟩
theorem Says.iff {o:Option (Bool×Unit)} {P Q:Prop} (h:Says o P) (k:P↔Q):Says o Q:=h.mono fun _ h=>h.trans k
theorem Says.brI {c:Bool} {o:Option (Bool×Unit)} {A B:Prop} (hc:c=true↔A) (h:A→Says o B):Says (xbr c o (some (false,()))) (A∧B):=by
 cases c with
 | true=>exact (h (hc.1 rfl)).iff ⟨fun b=>⟨hc.1 rfl,b⟩,And.right⟩
 | false=>exact Says.no fun k=>by have:=hc.2 k.1;cases this
theorem Says.brJ {c:Bool} {o:Option (Bool×Unit)} {A B:Prop} (hc:c=false↔A) (h:A→Says o B):Says (xbr c (some (false,())) o) (A∧B):=by
 cases c with
 | false=>exact (h (hc.1 rfl)).iff ⟨fun b=>⟨hc.1 rfl,b⟩,And.right⟩
 | true=>exact Says.no fun k=>by have:=hc.2 k.1;cases this
theorem Says.xb {o:Option (Bool×Unit)} {A B:Prop} {k:Bool×Unit→Option (Bool×Unit)} (ho:Says o A) (h:∀b:Bool,(b=true↔A)→Says (k (b,())) B):Says (xb o k) B:=by
 obtain ⟨⟨b,u⟩,e,hb⟩:=ho
 subst e
 exact h b hb
theorem c_lt {x y:Int}:(decide (x<y)==false)=true↔y≤x:=by simp
theorem c_gt {x y:Int}:(decide (x>y)==false)=true↔x≤y:=by simp
theorem c_ge {x y:Int}:(decide (x≥y)==false)=true↔x<y:=by simp
theorem c_le {x y:Int}:(decide (x≤y)==true)=true↔x≤y:=by simp
theorem c_geT {x y:Int}:(decide (x≥y)==true)=true↔y≤x:=by simp
theorem c_ne {x y:Int}:((x != y)==false)=true↔x=y:=by simp
theorem c_eqT {x y:Int}:((x==y)==true)=true↔x=y:=by simp
theorem j_gt {x y:Int}:decide (x>y)=false↔x≤y:=by simp
theorem d_le {x y:Int}:decide (x≤y)=true↔x≤y:=by simp
theorem n_b {b:Bool} {A:Prop} (h:b=true↔A):((!b)==false)=true↔A:=by rw [← h];cases b <;> simp
theorem j_b {b:Bool} {A:Prop} (h:b=true↔A):(!b)=false↔A:=by rw [← h];cases b <;> simp
theorem Tells.allI {S R:Type} {step:S→Option (S ⊕ R)} (mk:Nat→S) (n:Nat) (no yes:R) (P:Nat→Prop) (hn:n≤9223372036854775807)
  (h:∀k,k<n→(∀j,j<k→P j)→Tells (step (mk k)) fun x=>match x with | .inl s=>s=mk (k+1)∧P k | .inr r=>r=no∧¬ P k) (he:step (mk n)=some (.inr yes)) {s:S} (hs:s=mk 0) :
  Tells (xloop step xmany s) fun r=>(r=no∧¬ ∀k,k<n→P k)∨(r=yes∧∀k,k<n→P k):=by
 refine Tells.idx mk (fun k=>∀j,j<k→P j) n hn (fun j h=>by omega) (fun k hk hI=>(h k hk hI).mono fun x hx=>?_) (fun hI=>?_) hs
 ·match x,hx with
  | .inl s,⟨h1,h2⟩=>exact ⟨h1,fun j hj=>by
    by_cases e:j=k
    ·subst e;exact h2
    ·exact hI j (by omega)⟩
  | .inr r,⟨h1,h2⟩=>exact .inl ⟨h1,fun c=>h2 (c k hk)⟩
 ·rw [he]
  exact ⟨_,rfl,.inr ⟨rfl,hI⟩⟩
def CfgP (c:P_5):Prop:=1≤c.1∧c.1≤8∧1≤c.2.2.1∧c.2.2.1≤1000∧0≤c.2.1∧c.2.1≤c.2.2.1∧1≤c.2.2.2.1∧c.2.2.2.1≤16∧0≤c.2.2.2.2.1∧c.2.2.2.2.1≤100∧1≤c.2.2.2.2.2.1∧c.2.2.2.2.2.1≤16∧1≤c.2.2.2.2.2.2.1∧c.2.2.2.2.2.2.1≤4∧1≤c.2.2.2.2.2.2.2.1∧c.2.2.2.2.2.2.2.1≤8
theorem cfg_D (c:P_5):Says (F_07 (c,())) (CfgP c):=by
 refine Says.iff (Tells.of (R_W (c,())) (Says.brI c_lt fun _=>Says.brI c_gt fun _=>Says.brI c_lt fun _=>Says.brI c_gt fun _=>Says.brI c_lt fun _=>Says.brI c_gt fun _=>Says.brI c_lt fun _=>Says.brJ j_gt fun _=>Says.brI c_geT fun _=>Says.brI c_le fun _=>Says.brI c_geT fun _=>Says.brI c_le fun _=>Says.brI c_geT fun _=>Says.brI c_le fun _=>Says.brI c_geT fun _=>Says.of d_le)) (?_)
 unfold CfgP
 dsimp only
 constructor <;> (intro h;omega)
def TxP (t:P_4):Prop:=0≤t.1∧t.1≤255∧0≤t.2.1∧t.2.1≤4294967295∧0≤t.2.2.1∧t.2.2.1≤1099511627776∧t.2.2.1≤t.2.2.2.1∧t.2.2.2.1≤1099511627776∧1≤t.2.2.2.2.1∧t.2.2.2.2.1≤1073741824∧ByteArray.size t.2.2.2.2.2.1≤256
theorem tx_D (t:P_4):Says (F_x (t,())) (TxP t):=by
 refine Says.iff (Tells.of (R_S (t,())) (Says.brI c_lt fun _=>Says.brI c_gt fun _=>Says.brI c_lt fun _=>Says.brI c_ge fun _=>Says.brI c_lt fun _=>Says.brI c_gt fun _=>Says.brJ j_gt fun _=>Says.brI c_geT fun _=>Says.brI c_le fun _=>Says.of d_le)) (?_)
 unfold TxP
 dsimp only
 constructor <;> (intro h;omega)
abbrev noTx:P_4:=((0:Int),(0:Int),(0:Int),(0:Int),(0:Int),ByteArray.empty,())
abbrev noAcc:P_3:=((0:Int),(0:Int),[],())
def txI (L:List P_4) (i:Nat):P_4:=L.getD i noTx
def RiseP (s b:Int) (L:List P_4) (i:Nat):Prop:=TxP (txI L i)∧(txI L i).1=s∧b≤(txI L i).2.1∧(0<i→(txI L (i - 1)).2.1<(txI L i).2.1)
def AccP (a:P_3) (per:Int):Prop:=0≤a.1∧a.1≤255∧0≤a.2.1∧a.2.1≤4294967295∧1≤per∧per≤16∧(List.length a.2.2.1:Int)≤per∧∀i,i<List.length a.2.2.1→RiseP a.1 a.2.1 a.2.2.1 i
theorem acc_D (a:P_3) (per:Int) (h:List.length a.2.2.1≤1000000):Says (F_K (a,per,())) (AccP a per):=by
 have hL:List.length a.2.2.1≤9223372036854775807:=Nat.le_trans h (by decide)
 refine Says.iff (Tells.of (R_T (a,per,())) (Says.brI c_lt fun _=>Says.brI c_gt fun _=>Says.brI c_lt fun _=>Says.brI c_ge fun _=>Says.brI c_lt fun _=>Says.brI c_gt fun _=>Says.brJ j_gt fun _=>?_)) (P:=0≤a.1∧a.1≤255∧0≤a.2.1∧a.2.1<4294967296∧1≤per∧per≤16∧(List.length a.2.2.1:Int)≤per∧∀i,i<List.length a.2.2.1→RiseP a.1 a.2.1 a.2.2.1 i) ?_
 rotate_left
 ·unfold AccP
  constructor
  ·rintro ⟨a1,a2,a3,a4,a5,a6,a7,a8⟩;exact ⟨a1,a2,a3,by omega,a5,a6,a7,a8⟩
  ·rintro ⟨a1,a2,a3,a4,a5,a6,a7,a8⟩;exact ⟨a1,a2,a3,by omega,a5,a6,a7,a8⟩
 obtain ⟨s,b,L,u⟩:=a
 refine Tells.xb (Tells.allI (fun k=>(((k:Int),()),(((s,b,L,u),()),()),())) L.length (.inl ((false,()),(),())) (.inr (.inl ((),(),()))) (RiseP s b L) hL (fun k hk hI=>?_) ?_ rfl) (fun y hy=>?_)
 ·refine Tells.br (fun _=>?_) (fun h=>absurd (ltN_of hk) (by rw [h];simp))
  refine Tells.gd (inR_of hk) (Tells.gd (ltT_of hk) ?_)
  have ek:L.getD (Int.toNat (k:Int)) noTx=txI L k:=by rw [Int.toNat_natCast];rfl
  obtain ⟨⟨c,u2⟩,ec,hc⟩:=tx_D (txI L k)
  have ec2:F_x (L.getD (Int.toNat (k:Int)) noTx,())=some (c,()):=by rw [ek];exact ec
  refine Tells.xbe ec2 ?_
  have hs1:(L.getD (Int.toNat (k:Int)) noTx).1=(txI L k).1:=by rw [ek]
  have hs2:(L.getD (Int.toNat (k:Int)) noTx).2.1=(txI L k).2.1:=by rw [ek]
  refine Tells.br (fun h1=>?_) (fun h1=>⟨_,rfl,rfl,fun r=>?_⟩)
  rotate_left
  ·rw [(n_b hc).2 r.1] at h1;cases h1
  have h1:=(n_b hc).1 h1
  refine Tells.br (fun h2=>?_) (fun h2=>⟨_,rfl,rfl,fun r=>?_⟩)
  rotate_left
  ·rw [c_ne.2 (hs1.trans r.2.1)] at h2;cases h2
  have h2:=hs1.symm.trans (c_ne.1 h2)
  refine Tells.br (fun h3=>?_) (fun h3=>⟨_,rfl,rfl,fun r=>?_⟩)
  rotate_left
  ·have:b≤(L.getD (Int.toNat (k:Int)) noTx).2.1:=by rw [hs2];exact r.2.2.1
   rw [c_lt.2 this] at h3;cases h3
  have h3:b≤(txI L k).2.1:=by rw [← hs2];exact c_lt.1 h3
  refine Tells.br (fun hp=>?_) (fun hp=>?_)
  ·have hp:(0:Int)<(k:Int):=of_decide_eq_true (eq_of_beq hp)
   have e1:Int.toNat ((k:Int) - 1)=k - 1:=by omega
   have hkL:L.length≤1000000:=h
   refine Tells.gd (inI_of (by show _≤(k:Int) - 1;omega) (by show (k:Int) - 1≤_;omega)) ?_
   refine Tells.gd (inR_iff.2 ⟨by show (0:Int)≤(k:Int) - 1;omega,by show (k:Int) - 1<(L.length:Int);omega⟩) (Tells.gd (decide_eq_true (by show Int.toNat ((k:Int) - 1)<L.length;omega)) ?_)
   have ep:(L.getD (Int.toNat ((k:Int) - 1)) noTx).2.1=(txI L (k - 1)).2.1:=by rw [e1];rfl
   refine Tells.br (fun h4=>⟨_,rfl,rfl,fun r=>?_⟩) (fun h4=>?_)
   ·have h4:(txI L k).2.1≤(txI L (k - 1)).2.1:=by rw [← hs2,← ep];exact of_decide_eq_true h4
    have:=r.2.2.2 (by omega)
    omega
   ·have h4:¬ (txI L k).2.1≤(txI L (k - 1)).2.1:=by rw [← hs2,← ep];exact of_decide_eq_false h4
    exact Tells.gd (inI_nat hk hL) ⟨_,rfl,rfl,h1,h2,h3,fun _=>Int.not_le.1 h4⟩
  ·have hp:¬ (0:Int)<(k:Int):=fun c=>by have hp:(decide ((k:Int)>0)==true)=false:=hp;rw [decide_eq_true c] at hp;cases hp
   exact Tells.gd (inI_nat hk hL) ⟨_,rfl,rfl,h1,h2,h3,fun c=>by omega⟩
 ·exact xbr_f ltN_no
 ·rcases hy with ⟨rfl,hn⟩ | ⟨rfl,hn⟩
  ·exact Says.no hn
  ·exact Says.yes hn
def EmpP (a:P_3):Prop:=a.2.1=0∧List.length a.2.2.1=0
def acI (L:List P_3) (i:Nat):P_3:=L.getD i noAcc
def PlP (k per n:Int) (L:List P_3) (i:Nat):Prop:=AccP (acI L i) per∧¬ EmpP (acI L i)∧fnv.shardV (acI L i).1 n=k∧(0<i→(acI L (i - 1)).1<(acI L i).1)
def ShdP (c:P_0) (k:Int) (g:P_5):Prop:=0≤c.2.1∧c.2.1≤1099511627776∧∀i,i<List.length c.1→PlP k g.2.2.2.1 g.1 c.1 i
theorem emp_D (a:P_3):Says (F_J (a,())) (EmpP a):=by
 refine Says.iff (Tells.of (R_U (a,())) (Says.brI c_eqT fun _=>Says.of (beq_iff_eq (α:=Int)))) ?_
 unfold EmpP
 dsimp only
 constructor <;> (intro h;omega)
theorem d_Shard (s n:Int):F_r (s,n,())=some (fnv.shardV s n,()):=by unfold F_r;rfl
theorem b_no {b:Bool} {A:Prop} (h:b=true↔A):(b==false)=true↔¬ A:=by rw [← h];cases b <;> simp
theorem shd_D (c:P_0) (k:Int) (g:P_5) (h:List.length c.1≤1000000) (h2:∀a:P_3,a∈c.1→List.length a.2.2.1≤1000000):Says (F_L (c,k,g,())) (ShdP c k g):=by
 refine Says.iff (Tells.of (R_V (c,k,g,())) (Says.brI c_lt fun _=>Says.brJ j_gt fun _=>?_)) (P:=0≤c.2.1∧c.2.1≤1099511627776∧∀i,i<List.length c.1→PlP k g.2.2.2.1 g.1 c.1 i) Iff.rfl
 obtain ⟨L,v,u⟩:=c
 have hL:L.length≤9223372036854775807:=Nat.le_trans h (by decide)
 refine Tells.xb (Tells.allI (fun i=>((k,(i:Int),()),(((L,v,u),()),(g,()),()),())) L.length (.inl ((false,()),(),())) (.inr (.inl ((),(),()))) (PlP k g.2.2.2.1 g.1 L) hL (fun i hi hI=>?_) ?_ rfl) (fun y hy=>?_)
 ·refine Tells.br (fun _=>?_) (fun h=>absurd (ltN_of hi) (by rw [h];simp))
  refine Tells.gd (inR_of hi) (Tells.gd (ltT_of hi) ?_)
  have ek:L.getD (Int.toNat (i:Int)) noAcc=acI L i:=by rw [Int.toNat_natCast];rfl
  have hm:acI L i∈L:=by unfold acI;rw [getD_lt hi];exact List.getElem_mem hi
  obtain ⟨⟨b1,u1⟩,e1,hb1⟩:=acc_D (acI L i) g.2.2.2.1 (h2 _ hm)
  have e1:F_K (L.getD (Int.toNat (i:Int)) noAcc,g.2.2.2.1,())=some (b1,()):=by rw [ek];exact e1
  refine Tells.xbe e1 ?_
  refine Tells.br (fun h1=>?_) (fun h1=>⟨_,rfl,rfl,fun r=>?_⟩)
  rotate_left
  ·rw [(n_b hb1).2 r.1] at h1;cases h1
  have h1:=(n_b hb1).1 h1
  obtain ⟨⟨b2,u2⟩,e2,hb2⟩:=emp_D (acI L i)
  have e2:F_J (L.getD (Int.toNat (i:Int)) noAcc,())=some (b2,()):=by rw [ek];exact e2
  refine Tells.xbe e2 ?_
  refine Tells.br (fun h2=>?_) (fun h2=>⟨_,rfl,rfl,fun r=>?_⟩)
  rotate_left
  ·rw [(b_no hb2).2 r.2.1] at h2;cases h2
  have h2:=(b_no hb2).1 h2
  have e3:F_r ((L.getD (Int.toNat (i:Int)) noAcc).1,g.1,())=some (fnv.shardV (acI L i).1 g.1,()):=by rw [ek];exact d_Shard _ _
  refine Tells.xbe e3 ?_
  refine Tells.br (fun h3=>?_) (fun h3=>⟨_,rfl,rfl,fun r=>?_⟩)
  rotate_left
  ·rw [c_ne.2 r.2.2.1] at h3;cases h3
  have h3:=c_ne.1 h3
  refine Tells.br (fun hp=>?_) (fun hp=>?_)
  ·have hp:(0:Int)<(i:Int):=of_decide_eq_true (eq_of_beq hp)
   have e1:Int.toNat ((i:Int) - 1)=i - 1:=by omega
   refine Tells.gd (inI_of (by show _≤(i:Int) - 1;omega) (by show (i:Int) - 1≤_;omega)) ?_
   refine Tells.gd (inR_iff.2 ⟨by show (0:Int)≤(i:Int) - 1;omega,by show (i:Int) - 1<(L.length:Int);omega⟩) (Tells.gd (decide_eq_true (by show Int.toNat ((i:Int) - 1)<L.length;omega)) ?_)
   have ep:L.getD (Int.toNat ((i:Int) - 1)) noAcc=acI L (i - 1):=by rw [e1];rfl
   refine Tells.br (fun h4=>⟨_,rfl,rfl,fun r=>?_⟩) (fun h4=>?_)
   ·have h4:(acI L i).1≤(acI L (i - 1)).1:=by rw [← ek,← ep];exact of_decide_eq_true h4
    have:=r.2.2.2 (by omega)
    omega
   ·have h4:¬ (acI L i).1≤(acI L (i - 1)).1:=by rw [← ek,← ep];exact of_decide_eq_false h4
    exact Tells.gd (inI_nat hi hL) ⟨_,rfl,rfl,h1,h2,h3,fun _=>by omega⟩
  ·have hp:¬ (0:Int)<(i:Int):=fun c=>by have hp:(decide ((i:Int)>0)==true)=false:=hp;rw [decide_eq_true c] at hp;cases hp
   exact Tells.gd (inI_nat hi hL) ⟨_,rfl,rfl,h1,h2,h3,fun c=>by omega⟩
 ·exact xbr_f ltN_no
 ·rcases hy with ⟨rfl,hn⟩ | ⟨rfl,hn⟩
  ·exact Says.no hn
  ·exact Says.yes hn
def lkI (L:List Int) (i:Nat):Int:=L.getD i 0
def shI (L:List P_0) (i:Nat):P_0:=L.getD i noShd where noShd:=([],(0:Int),())
def SgP (s:P_2):Prop:=CfgP s.1∧(List.length s.2.1:Int)=s.1.1∧(List.length s.2.2.2.1:Int)=s.1.1∧s.2.2.1.2.1=s.1.2.2.1∧0≤s.2.2.1.1∧s.2.2.1.1≤s.1.2.2.1∧∀i,i<List.length s.2.1→0≤lkI s.2.1 i∧ShdP (shI s.2.2.2.1 i) (i:Int) s.1
theorem may_D (s:P_2) (h:SgCl s):Says (F_M (s,())) (SgP s):=by
 refine Says.iff (Tells.of (R_X (s,())) (Says.xb (cfg_D s.1) fun b hb=>Says.brI (n_b hb) fun _=>Says.brI c_ne fun h2=>Says.brI c_ne fun h3=>Says.brI c_ne fun _=>Says.brI c_lt fun _=>Says.brJ j_gt fun _=>?_)) (P:=CfgP s.1∧(List.length s.2.1:Int)=s.1.1∧(List.length s.2.2.2.1:Int)=s.1.1∧s.2.2.1.2.1=s.1.2.2.1∧0≤s.2.2.1.1∧s.2.2.1.1≤s.1.2.2.1∧∀i,i<List.length s.2.1→0≤lkI s.2.1 i∧ShdP (shI s.2.2.2.1 i) (i:Int) s.1) Iff.rfl
 have h2:(List.length s.2.1:Int)=s.1.1:=h2
 have h3:(List.length s.2.2.2.1:Int)=s.1.1:=h3
 have hn:List.length s.2.2.2.1=List.length s.2.1:=by omega
 have hL:List.length s.2.1≤9223372036854775807:=Nat.le_trans h.1 (by decide)
 refine Tells.xb (Tells.allI (fun i=>(((i:Int),()),(((s,()),(s.1,()),()),()))) (List.length s.2.1) (.inl ((false,()),(),())) (.inr (.inl ((),(),()))) (fun i=>0≤lkI s.2.1 i∧ShdP (shI s.2.2.2.1 i) (i:Int) s.1) hL (fun i hi hI=>?_) ?_ rfl) (fun y hy=>?_)
 ·have hl:decide ((i:Int)<s.1.1)=true:=decide_eq_true (by omega)
  refine Tells.br (fun _=>?_) (fun h=>absurd hl (by rw [h];simp))
  refine Tells.gd (inR_of hi) (Tells.gd (ltT_of hi) ?_)
  have hi2:i<List.length s.2.2.2.1:=by omega
  have e0:(s.2.1:List Int).getD (Int.toNat (i:Int)) 0=lkI s.2.1 i:=by rw [Int.toNat_natCast];rfl
  refine Tells.br (fun h0=>?_) (fun h0=>⟨_,rfl,rfl,fun r=>?_⟩)
  rotate_left
  ·rw [c_lt.2 (by rw [e0];exact r.1)] at h0;cases h0
  have h0:0≤lkI s.2.1 i:=by rw [← e0];exact c_lt.1 h0
  refine Tells.gd (inR_of hi2) (Tells.gd (ltT_of hi2) ?_)
  have eg:(s.2.2.2.1:List P_0).getD (Int.toNat (i:Int)) ([],(0:Int),())=shI s.2.2.2.1 i:=by rw [Int.toNat_natCast];rfl
  have hm:shI s.2.2.2.1 i∈(s.2.2.2.1:List P_0):=by unfold shI;rw [getD_lt hi2];exact List.getElem_mem hi2
  obtain ⟨⟨b1,u1⟩,e1,hb1⟩:=shd_D (shI s.2.2.2.1 i) (i:Int) s.1 (h.2.2 _ hm).1 (h.2.2 _ hm).2
  have e1:F_L ((s.2.2.2.1:List P_0).getD (Int.toNat (i:Int)) ([],(0:Int),()),(i:Int),s.1,())=some (b1,()):=by rw [eg];exact e1
  refine Tells.xbe e1 ?_
  refine Tells.br (fun h1=>⟨_,rfl,rfl,fun r=>?_⟩) (fun h1=>?_)
  ·rw [(j_b hb1).2 r.2] at h1;cases h1
  ·exact Tells.gd (inI_nat hi hL) ⟨_,rfl,rfl,h0,(j_b hb1).1 h1⟩
 ·have hl:decide (((List.length s.2.1:Nat):Int)<s.1.1)=false:=decide_eq_false (by omega)
  exact xbr_f hl
 ·rcases hy with ⟨rfl,hx⟩ | ⟨rfl,hx⟩
  ·exact Says.no hx
  ·exact Says.yes hx
end Go.Proofs.YtdbjakibneeeiaaGreatDoor.Ex
