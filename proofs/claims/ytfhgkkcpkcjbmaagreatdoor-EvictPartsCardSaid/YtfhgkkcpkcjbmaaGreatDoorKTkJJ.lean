/- Layer 16 (task): plain words: steps; sights that may be. -/
import Derived.Test.YtfhgkkcpkcjbmaaGreatDoorKTkAA
import Derived.Test.YtfhgkkcpkcjbmaaGreatDoorKEnvL
set_option linter.all false
set_option maxHeartbeats 4000000
set_option maxRecDepth 100000
namespace Go.Proofs.YtfhgkkcpkcjbmaaGreatDoor.task
open Go.RowKit Sx txn queue greedy shard pool Go.Proofs.YtfhgkkcpkcjbmaaGreatDoor.look lock
def shQ (s:Sg) (k:Int):List PA×Int:=(s.S[k.toNat]?).getD ([],0)
def kap (t:Tk) (s:Sg):Int:=fnv.shardV t.s s.C.sh
def phaseR (t:Tk) (who:Int) (s:Sg):Sr:=
 if t.ph=0 then beginR t s else if t.ph=1 then ⟨{ t with ph:=2 },{ s with l:=takeV s.l (kap t s) who },[],false⟩
 else if t.ph=2 then seeR t s (shQ s (kap t s)).1 else if t.ph=3 then adjustR t s
 else if t.ph=4 then applyR t s (kap t s).toNat (shQ s (kap t s)).1 (shQ s (kap t s)).2
 else ⟨{ t with ph:=6 },{ s with l:=giveV s.l (kap t s) who },[],false⟩
def stR (t:Tk) (who:Int) (s:Sg):Sr:=if ableV t who s=true then phaseR t who s else ⟨t,s,[],false⟩
def stepR (t:Tk) (who:Int) (s:Sg):Sr:=⟨{ (stR t who s).t with pt:=(stR t who s).t.pt||(stR t who s).p },(stR t who s).s,(stR t who s).ev,(stR t who s).p⟩
theorem shOk_all {P:List PA} {k sh per:Int}:shOk P k sh per=true↔(∀x∈P,goodB per x=true∧fnv.shardV x.1 sh=k)∧pool.Ord P:=by
 unfold shOk
 rw [List.all_eq_true]
 have key:∀i x,P[i]?=some x→(okI P k sh per i=true↔(∀j y,i=j+1→P[j]?=some y→y.1<x.1)∧goodB per x=true∧fnv.shardV x.1 sh=k):=by
  intro i x hx
  cases i with
  | zero=>
   rw [okI_zero hx]
   unfold goodB
   simp only [Bool.and_eq_true,beq_iff_eq]
   exact ⟨fun h=>⟨fun j y e=>by omega,h.1,h.2⟩,fun h=>⟨h.2.1,h.2.2⟩⟩
  | succ j=>
   obtain ⟨y,hy⟩:∃y,P[j]?=some y:=⟨_,List.getElem?_eq_getElem (by have:=(List.getElem?_eq_some_iff.1 hx).1;omega)⟩
   rw [okI_succ hx hy]
   unfold goodB
   simp only [Bool.and_eq_true,beq_iff_eq,decide_eq_true_eq]
   constructor
   ·rintro ⟨⟨⟨h1,h2⟩,h3⟩,h4⟩
    exact ⟨fun j' y' e hy'=>(by obtain rfl:j=j':=(by omega);rw [hy] at hy';cases hy';exact h1),⟨h2,h3⟩,h4⟩
   ·rintro ⟨h1,⟨h2,h3⟩,h4⟩
    exact ⟨⟨⟨h1 j y rfl hy,h2⟩,h3⟩,h4⟩
 constructor
 ·intro h
  have h':∀i x,P[i]?=some x→(∀j y,i=j+1→P[j]?=some y→y.1<x.1)∧goodB per x=true∧fnv.shardV x.1 sh=k:=fun i x hx=>
   (key i x hx).1 (h i (List.mem_range.2 (List.getElem?_eq_some_iff.1 hx).1))
  refine ⟨fun x hx=>?_,?_⟩
  ·obtain ⟨i,hi⟩:=List.mem_iff_getElem?.1 hx
   exact (h' i x hi).2
  ·rw [pool.Ord,List.pairwise_iff_getElem]
   intro i j hi hj hij
   have step:∀d (hd:i+d+1<P.length),(P[i]'hi).1<(P[i+d+1]'hd).1:=by
    intro d
    induction d with
    | zero=>intro hd;exact (h' (i+0+1) _ (List.getElem?_eq_getElem hd)).1 i _ rfl (List.getElem?_eq_getElem hi)
    | succ d ih=>
     intro hd
     have h1:=ih (by omega)
     have h2:=(h' (i+(d+1)+1) _ (List.getElem?_eq_getElem hd)).1 (i+d+1) _ rfl (List.getElem?_eq_getElem (by omega))
     omega
   have:=step (j - i - 1) (by omega)
   simpa [show i+(j - i - 1)+1=j by omega] using this
 ·rintro ⟨h1,h2⟩ i hi
  have hi:=List.mem_range.1 hi
  refine (key i _ (List.getElem?_eq_getElem hi)).2 ⟨fun j y e hy=>?_,h1 _ (List.getElem_mem hi)⟩
  subst e
  have:=List.pairwise_iff_getElem.1 h2 j (j+1) (by omega) hi (by omega)
  rw [List.getElem?_eq_getElem (by omega)] at hy
  cases hy
  exact this
theorem shCheck_iff {v:Int} {P:List PA} {k sh per:Int}:shCheck v P k sh per=true↔(0≤v∧v≤1099511627776)∧(∀x∈P,goodB per x=true∧fnv.shardV x.1 sh=k)∧pool.Ord P:=by
 unfold shCheck
 rw [Bool.and_eq_true,Bool.and_eq_true,shOk_all,decide_eq_true_eq,decide_eq_true_eq]
theorem may_iff {s:Sg}:mayS s=true↔cfgB s.C=true∧(s.l.length:Int)=s.C.sh∧(s.S.length:Int)=s.C.sh∧(∀k,k<s.S.length→okK s k=true)∧s.m=s.C.hd∧0≤s.t∧s.t≤s.C.hd:=by
 unfold mayS allB
 simp only [Bool.and_eq_true,decide_eq_true_eq,List.all_eq_true,List.mem_range,and_assoc]
theorem okK_iff {s:Sg} {k:Nat}:okK s k=true↔∃z q,s.l[k]?=some z∧s.S[k]?=some q∧0≤z∧shCheck q.2 q.1 k s.C.sh s.C.per=true:=by
 unfold okK
 cases h1:s.l[k]? with
 | none=>simp
 | some z=>
  cases h2:s.S[k]? with
  | none=>simp
  | some q=>simp
theorem may_shard {s:Sg} (h:mayS s=true) {k:Nat} {q:List PA×Int} (hq:s.S[k]?=some q):shCheck q.2 q.1 k s.C.sh s.C.per=true:=by
 obtain ⟨_,h1,h2,h3,_⟩:=may_iff.1 h
 obtain ⟨z',q',_,hq',_,h0⟩:=okK_iff.1 (h3 k (List.getElem?_eq_some_iff.1 hq).1)
 rw [hq] at hq'
 cases hq'
 exact h0
theorem cfg_bd {C:Cf} (h:cfgB C=true):1≤C.sh∧C.sh≤8∧1≤C.hd∧C.hd≤1000∧0≤C.so∧C.so≤C.hd∧1≤C.per∧C.per≤16:=by
 have:=of_decide_eq_true h
 omega
theorem shardV_bd {s n:Int} (hs:0≤s∧s≤255) (hn:1≤n∧n≤8):0≤fnv.shardV s n∧fnv.shardV s n<n:=by
 unfold fnv.shardV
 rw [if_pos ⟨hs.1,hs.2,hn.1,hn.2⟩]
 exact ⟨Int.emod_nonneg _ (by omega),Int.emod_lt_of_pos _ (by omega)⟩
theorem getP_ck {v:Int} {P:List PA} {k sh per:Int} (h:shCheck v P k sh per=true) (hp:1≤per∧per≤16) {s:Int} (hs:0≤s∧s≤255):checkV s (getP P s).2.1 per (getP P s).2.2=true:=by
 obtain ⟨_,h2,h3⟩:=shCheck_iff.1 h
 rcases getP_or P s with ⟨g1,g2⟩ | ⟨g1,g2⟩
 ·have:=(h2 _ g1).1
  unfold goodB at this
  rw [Bool.and_eq_true,g2] at this
  exact this.1
 ·rw [g1]
  exact (checkV_iff _ _ _ _).2 ⟨hs,⟨Int.le_refl _,by show (0:Int)≤4294967295;decide⟩,hp,by simp;omega,rfl⟩
theorem held_has {l:List Int} {who k:Int}:(heldV l who).contains k=true↔(0≤k∧k<l.length)∧holdsB l k who=true:=by
 unfold heldV ups holdP
 rw [List.contains_iff_mem]
 constructor
 ·intro h
  obtain ⟨j,hj,rfl⟩:=List.mem_map.1 h
  obtain ⟨h1,h2⟩:=List.mem_filter.1 hj
  have:=List.mem_range.1 h1
  exact ⟨⟨Int.natCast_nonneg j,by show (j:Int)<_;omega⟩,h2⟩
 ·rintro ⟨⟨h0,h1⟩,h2⟩
  refine List.mem_map.2 ⟨k.toNat,List.mem_filter.2 ⟨List.mem_range.2 (by omega),?_⟩,by show ((k.toNat:Nat):Int)=k;omega⟩
  show holdsB l (k.toNat:Int) who=true
  rw [show ((k.toNat:Nat):Int)=k by omega]
  exact h2
end Go.Proofs.YtfhgkkcpkcjbmaaGreatDoor.task
namespace Go.Proofs.YtfhgkkcpkcjbmaaGreatDoor.task
open Go.RowKit Sx txn queue greedy shard pool Go.Proofs.YtfhgkkcpkcjbmaaGreatDoor.look lock
structure Cx where
 o:Oq
 who:Int
 s:Sg
abbrev R0:Rq:=⟨0,tx0,[],0⟩
def newT (o:Oq):Tk:=⟨o,0,0,failL 0,R0,false⟩
def tk (s:Sg) (l:List Int):Sg:=⟨s.C,l,s.t,s.m,s.S⟩
section
variable {c : Cx}
def pst (r:Sr):Sr:=⟨{ r.t with pt:=r.t.pt||r.p },r.s,r.ev,r.p⟩
end
end Go.Proofs.YtfhgkkcpkcjbmaaGreatDoor.task
namespace Go.Proofs.YtfhgkkcpkcjbmaaGreatDoor.task
open Go.RowKit Sx txn queue greedy shard pool Go.Proofs.YtfhgkkcpkcjbmaaGreatDoor.look lock
def Tsz (t:Tk):Prop:=t.O.d.size≤1000000∧t.P.l.length≤1000∧(∀z∈t.P.l,z.d.size≤maxLen)∧t.P.ev.length≤1000∧t.P.r.l.length≤1000∧t.r.l.length≤1000∧Fits t.P.dl
theorem ord_bd:∀{P:List PA} {b:Int},pool.Ord P→(∀x∈P,b≤x.1∧x.1≤255)→(P.length:Int)≤max 0 (256 - b)
 | [],b,_,_=>by simp;omega
 | x::P,b,ho,h=>by
  obtain ⟨h1,h2⟩:=h x (.head _)
  have ho2:=List.pairwise_cons.1 ho
  have:=ord_bd (P:=P) (b:=b+1) ho2.2 fun y hy=>⟨by have:=ho2.1 y hy;omega,(h y (.tail _ hy)).2⟩
  rw [List.length_cons]
  omega
theorem may_len {s:Sg} (hm:mayS s=true) {k:Nat} {q:List PA×Int} (hq:s.S[k]?=some q):q.1.length≤256:=by
 obtain ⟨_,h2,h3⟩:=shCheck_iff.1 (may_shard hm hq)
 have:=ord_bd (b:=0) h3 fun x hx=>by
  obtain ⟨h4,_⟩:=h2 x hx
  have:=(good_iff.1 h4).1
  omega
 omega
theorem may_small {s:Sg} (hm:mayS s=true):s.l.length≤8∧s.S.length≤8:=by
 obtain ⟨h1,h2,h3,_⟩:=may_iff.1 hm
 have:=cfg_bd h1
 omega
theorem shard_in {s n:Int} (h:0≤fnv.shardV s n):0≤s∧s≤255:=by
 unfold fnv.shardV at h
 split at h
 ·rename_i k;exact ⟨k.1,k.2.1⟩
 ·omega
theorem look_dl {per bump:Int} {p:PA} {O:Oq} (hp:p.2.2.length≤16):Fits (lookL per bump p O).dl:=by
 have b0:=slotsL_bd p.2.2
 have key:∀r:List Tx,r.length≤17→Fits (slotsL r - slotsL p.2.2):=fun r hr=>by
  have b1:=slotsL_bd r
  constructor <;> omega
 have z:Fits 0:=by constructor <;> decide
 rcases lookL_cases per bump p O with ⟨e,he,k⟩ | ⟨_,k⟩ | ⟨_,k⟩ | ⟨_,k⟩ | ⟨_,k⟩ <;> rw [k]
 ·exact z
 ·rcases addL_cases per bump p O.d with ⟨e,he,k⟩ | ⟨t,κ,_,h1,_,k⟩ <;> rw [k]
  ·exact z
  ·exact key _ (Nat.le_trans (putV_bd t p.2.2).1 (by omega))
 ·rcases dropL_cases p O.v with k | ⟨t,_,k⟩ <;> rw [k]
  ·exact z
  ·exact key _ (Nat.le_trans (List.length_filter_le ..) (by omega))
 ·rcases advL_cases p O.v with ⟨e,he,k⟩ | ⟨_,_,ha,k⟩ <;> rw [k]
  ·exact z
  ·exact key _ (Nat.le_trans (List.length_filter_le ..) (by omega))
 ·rcases getL_cases p O.v with k | ⟨t,_,k⟩ <;> rw [k] <;> exact z
theorem look_szd {C:Cf} {p:PA} {O:Oq} (hp:p.2.2.length≤16) (hd:∀t∈p.2.2,t.d.size≤maxLen):(lookL C.per C.bp p O).l.length≤1000∧(∀z∈(lookL C.per C.bp p O).l,z.d.size≤maxLen)∧(lookL C.per C.bp p O).ev.length≤1000∧(lookL C.per C.bp p O).r.l.length≤1000∧Fits (lookL C.per C.bp p O).dl:=by
 obtain ⟨h1,h2,h3⟩:=lookL_r C.per C.bp p O
 exact ⟨by omega,lookL_d hd,by omega,by omega,look_dl hp⟩
theorem full_sz (P:Pl) (h:P.r.l.length≤1000):(fullL P).l.length≤1000:=by
 unfold fullL
 split
 ·exact Nat.zero_le _
 ·exact h
theorem able_has {t:Tk} {who:Int} {s:Sg} (h:ableV t who s=true):mayS s=true∧(t.ph=0∨t.ph=1∨((t.ph=2∨t.ph=3∨t.ph=4∨t.ph=5)∧∃κ:Nat,fnv.shardV t.s s.C.sh=κ∧κ<s.S.length∧0≤t.s∧t.s≤255)):=by
 unfold ableV at h
 split at h
 ·cases h
 rename_i h0
 have hm:mayS s=true:=by
  cases hm:mayS s with
  | true=>rfl
  | false=>exact absurd (.inr hm) h0
 refine ⟨hm,?_⟩
 obtain ⟨_,m2,m3,_⟩:=may_iff.1 hm
 split at h
 ·exact .inl (by assumption)
 split at h
 ·exact .inr (.inl (by assumption))
 split at h
 ·rename_i hph
  obtain ⟨⟨k1,k2⟩,_⟩:=held_has.1 h
  exact .inr (.inr ⟨by omega,(fnv.shardV t.s s.C.sh).toNat,by omega,by omega,shard_in k1⟩)
 ·cases h
theorem step_sz {t:Tk} {who:Int} {s:Sg} (ha:ableV t who s=true) (ht:Tsz t) (hd:∀q∈s.S,∀p∈q.1,∀z∈p.2.2,z.d.size≤maxLen) :
  Tsz (phaseR t who s).t∧(phaseR t who s).ev.length≤1000∧(phaseR t who s).s.l.length≤8∧(phaseR t who s).s.S.length≤8∧∀q∈(phaseR t who s).s.S,q.1.length≤1000:=by
 obtain ⟨hm,hp⟩:=able_has ha
 obtain ⟨l8,S8⟩:=may_small hm
 have hq:∀q∈s.S,q.1.length≤1000:=fun q hq=>by
  obtain ⟨k,hk⟩:=List.mem_iff_getElem?.1 hq
  have:=may_len hm hk
  omega
 obtain ⟨t1,t2,t3,t4,t5,t6,t7⟩:=ht
 have z:Fits 0:=by constructor <;> decide
 rcases hp with hp | hp | ⟨hp,κ,hκ,hlt,hs0,hs1⟩
 ·have e:phaseR t who s=beginR t s:=if_pos hp
  rw [e]
  unfold beginR
  split
  ·exact ⟨⟨t1,t2,t3,t4,t5,t6,t7⟩,Nat.zero_le _,l8,S8,hq⟩
  ·exact ⟨⟨t1,t2,t3,t4,t5,(look_szd (C:=s.C) (p:=(-1,0,[])) (O:=t.O) (by simp) (by simp)).2.2.2.1,t7⟩,Nat.zero_le _,l8,S8,hq⟩
 ·have e:phaseR t who s=⟨{ t with ph:=2 },{ s with l:=takeV s.l (kap t s) who },[],false⟩:=by unfold phaseR;rw [if_neg (by omega),if_pos hp]
  rw [e]
  exact ⟨⟨t1,t2,t3,t4,t5,t6,t7⟩,Nat.zero_le _,by show (takeV _ _ _).length≤8;rw [take_len];exact l8,S8,hq⟩
 ·obtain ⟨q,hq2⟩:∃q,s.S[κ]?=some q:=⟨_,List.getElem?_eq_getElem hlt⟩
  have eq:shQ s (kap t s)=q:=by
   unfold shQ kap
   rw [hκ,show ((κ:Int)).toNat=κ from rfl,hq2]
   rfl
  rcases hp with hp | hp | hp | hp
  ·have e:phaseR t who s=seeR t s q.1:=by unfold phaseR;rw [if_neg (by omega),if_neg (by omega),if_pos hp,eq]
   rw [e]
   have hcf:=cfg_bd (may_iff.1 hm).1
   have hck:=getP_ck (may_shard hm hq2) ⟨hcf.2.2.2.2.2.2.1,hcf.2.2.2.2.2.2.2⟩ (s:=t.s) ⟨hs0,hs1⟩
   have h16:(getP q.1 t.s).2.2.length≤16:=by
    have:=((checkV_iff _ _ _ _).1 hck).2.2.2.1
    omega
   have hdd:∀z∈(getP q.1 t.s).2.2,z.d.size≤maxLen:=by
    rcases getP_or q.1 t.s with ⟨g1,_⟩ | ⟨g1,_⟩
    ·exact hd q (List.mem_of_getElem? hq2) _ g1
    ·rw [g1];simp
   obtain ⟨n1,n2,n3,n4,n5⟩:=look_szd (C:=s.C) (O:=t.O) h16 hdd
   unfold seeR
   split
   ·exact ⟨⟨t1,n1,n2,n3,n4,t6,n5⟩,Nat.zero_le _,l8,S8,hq⟩
   ·exact ⟨⟨t1,n1,n2,n3,n4,n4,n5⟩,Nat.zero_le _,l8,S8,hq⟩
  ·have e:phaseR t who s=adjustR t s:=by unfold phaseR;rw [if_neg (by omega),if_neg (by omega),if_neg (by omega),if_pos hp]
   rw [e]
   unfold adjustR
   split
   ·exact ⟨⟨t1,t2,t3,t4,t5,t5,t7⟩,t4,l8,S8,hq⟩
   ·exact ⟨⟨t1,t2,t3,t4,t5,full_sz _ t5,t7⟩,Nat.zero_le _,l8,S8,hq⟩
  ·have e:phaseR t who s=applyR t s (kap t s).toNat q.1 q.2:=by unfold phaseR;rw [if_neg (by omega),if_neg (by omega),if_neg (by omega),if_neg (by omega),if_pos hp,eq]
   rw [e]
   refine ⟨⟨t1,t2,t3,t4,t5,t6,t7⟩,Nat.zero_le _,l8,by show (s.S.set _ _).length≤8;rw [List.length_set];exact S8,fun r hr=>?_⟩
   rcases List.mem_or_eq_of_mem_set hr with hr | rfl
   ·exact hq r hr
   ·have:=pool.setP_le q.1 (t.P.s,t.P.b,t.P.l)
    have h6:=may_len hm hq2
    show (setP q.1 (t.P.s,t.P.b,t.P.l)).length≤1000
    omega
  ·have e:phaseR t who s=⟨{ t with ph:=6 },{ s with l:=giveV s.l (kap t s) who },[],false⟩:=by unfold phaseR;rw [if_neg (by omega),if_neg (by omega),if_neg (by omega),if_neg (by omega),if_neg (by omega)]
   rw [e]
   exact ⟨⟨t1,t2,t3,t4,t5,t6,t7⟩,Nat.zero_le _,by show (giveV _ _ _).length≤8;rw [give_len];exact l8,S8,hq⟩
end Go.Proofs.YtfhgkkcpkcjbmaaGreatDoor.task
namespace Go.Proofs.YtfhgkkcpkcjbmaaGreatDoor.task
open Go.RowKit Sx txn queue greedy shard pool Go.Proofs.YtfhgkkcpkcjbmaaGreatDoor.look lock
def stepsV:Value:=.agg #[.func (.func 155) #[] #[],.func (.func 156) #[] #[],.func (.func 157) #[] #[],.func (.func 158) #[] #[],.func (.func 159) #[] #[],.func (.func 160) #[] #[]]
theorem steps (w:World):Calls Tryz.prog 103 (List.toArray []) w fun e w'=>e=.returned stepsV∧Below w.heap.size w w':=by
 refine calls_of_exec Sxu.env_ok.keeps.soon_ Tryz.func103 rfl [] (schedQ_ok _ _ (by kernel_rfl)) [] (by simp) ?_
 conv=>arg 5;whnf
 exact wp_back fun β ρ w' hM'=>⟨rfl,hM'.below⟩
theorem stepsAt {k:Nat} {f:FuncId} (h:([155,156,157,158,159,160]:List FuncId)[k]?=some f) (w:World):(do pure (Next.value (← Instr.index 181 stepsV (.int .i64 k))):Sem Next).run Tryz.prog w=.ok (.value (.func (.func f) #[] #[])) w:=by
 match k,h with
 | 0,h=>cases h;show (_:Result Next)=_;kernel_rfl
 | 1,h=>cases h;show (_:Result Next)=_;kernel_rfl
 | 2,h=>cases h;show (_:Result Next)=_;kernel_rfl
 | 3,h=>cases h;show (_:Result Next)=_;kernel_rfl
 | 4,h=>cases h;show (_:Result Next)=_;kernel_rfl
 | 5,h=>cases h;show (_:Result Next)=_;kernel_rfl
 | k+6,h=>simp at h
theorem phase {t:Tk} {y:Tn} {who:Int} {s:Sg} {x:Sn} (ha:ableV t who s=true) (ht:Tsz t) (hy:y.ok t) (hx:Sgo x s):∃f:FuncId,(∀w,(do pure (Next.value (← Instr.index 181 stepsV (.int .i64 t.ph))):Sem Next).run Tryz.prog w=.ok (.value (.func (.func f) #[] #[])) w)∧callable Tryz.prog f=true∧
  ∀w,Most w→(∀φ∈y.fs t,∀g,φ.g=some g→∃o,w.heap[g]?=some o∧φ.holds o)→(∀φ∈sgF x s,∀g,φ.g=some g→∃o,w.heap[g]?=some o∧φ.holds o)→Calls Tryz.prog f (List.toArray [tkV t y,.int .i64 who,sgV s x]) w fun e w'=>StA w w' (y.fs t++sgF x s) e (phaseR t who s):=by
 obtain ⟨hm,hp⟩:=able_has ha
 obtain ⟨l8,S8⟩:=may_small hm
 have hxl:x.S.length=s.S.length:=by rw [← hx.2.2.2,List.length_map]
 have at_:∀{k:Nat} {f:FuncId},t.ph=k→([155,156,157,158,159,160]:List FuncId)[k]?=some f→∀w,(do pure (Next.value (← Instr.index 181 stepsV (.int .i64 t.ph))):Sem Next).run Tryz.prog w=.ok (.value (.func (.func f) #[] #[])) w:=fun e h w=>by rw [e];exact stepsAt h w
 obtain ⟨t1,t2,t3,t4,t5,t6,t7⟩:=ht
 rcases hp with hp | hp | ⟨hp,κ,hκ,hlt,hs0,hs1⟩
 ·have e:phaseR t who s=beginR t s:=if_pos hp
  rw [e]
  exact ⟨_,at_ (k:=0) hp rfl,by kernel_rfl,fun w hM hyf hxf=>begin_ t y who s x w hM hy hyf hx hxf t1⟩
 ·have e:phaseR t who s=⟨{ t with ph:=2 },{ s with l:=takeV s.l (fnv.shardV t.s s.C.sh) who },[],false⟩:=by unfold phaseR;rw [if_neg (by omega),if_pos hp];rfl
  rw [e]
  exact ⟨_,at_ (k:=1) hp rfl,by kernel_rfl,fun w hM hyf hxf=>take_ t y who s x w hy hyf hx hxf (by omega)⟩
 ·obtain ⟨q,hq⟩:∃q,x.S[κ]?=some q:=⟨_,List.getElem?_eq_getElem (by omega)⟩
  have hsq:s.S[κ]?=some (q.L.map acP,q.v):=by rw [← hx.2.2.2,List.getElem?_map,hq];rfl
  have hqn:=(hx.2.2.1 q (List.mem_of_getElem? hq)).2.1
  have hql:=may_len hm hsq
  have hql:(q.L.map acP).length≤256:=hql
  rw [List.length_map] at hql
  have eq:shQ s (kap t s)=(q.L.map acP,q.v):=by
   unfold shQ kap
   rw [hκ,show ((κ:Int)).toNat=κ from rfl,hsq]
   rfl
  have ek:(kap t s).toNat=κ:=by unfold kap;rw [hκ];rfl
  rcases hp with hp | hp | hp | hp
  ·have e:phaseR t who s=seeR t s (q.L.map acP):=by unfold phaseR;rw [if_neg (by omega),if_neg (by omega),if_pos hp,eq]
   rw [e]
   exact ⟨_,at_ (k:=2) hp rfl,by kernel_rfl,fun w hM hyf hxf=>see_ t y who s x κ q w hM hy hyf hx hxf t1 hκ hq (by omega)⟩
  ·have e:phaseR t who s=adjustR t s:=by unfold phaseR;rw [if_neg (by omega),if_neg (by omega),if_neg (by omega),if_pos hp]
   rw [e]
   exact ⟨_,at_ (k:=3) hp rfl,by kernel_rfl,fun w hM hyf hxf=>adjust_ t y who s x w hy hyf hx hxf t7 (by omega)⟩
  ·have e:phaseR t who s=applyR t s κ (q.L.map acP) q.v:=by unfold phaseR;rw [if_neg (by omega),if_neg (by omega),if_neg (by omega),if_neg (by omega),if_pos hp,eq,ek]
   rw [e]
   exact ⟨_,at_ (k:=4) hp rfl,by kernel_rfl,fun w hM hyf hxf=>apply_ t y who s x κ q w hM hy hyf hx hxf hκ hq (by omega) (by omega) (by omega) t3⟩
  ·have e:phaseR t who s=⟨{ t with ph:=6 },{ s with l:=giveV s.l (fnv.shardV t.s s.C.sh) who },[],false⟩:=by unfold phaseR;rw [if_neg (by omega),if_neg (by omega),if_neg (by omega),if_neg (by omega),if_neg (by omega)];rfl
   rw [e]
   exact ⟨_,at_ (k:=5) hp rfl,by kernel_rfl,fun w hM hyf hxf=>give_ t y who s x w hy hyf hx hxf (by omega)⟩
end Go.Proofs.YtfhgkkcpkcjbmaaGreatDoor.task
namespace Go.Proofs.YtfhgkkcpkcjbmaaGreatDoor.task
open Go.RowKit Sx txn queue greedy shard pool Go.Proofs.YtfhgkkcpkcjbmaaGreatDoor.look lock
section
variable {W : World} {G : Option Nat} {Q : Ending → World → Prop} {ds : List Deferred}
theorem meetTn {f:FuncId} {args:List Sx.T} {l:List Value} {m:M} {k:Value→List Fact→Tree} (t:Tk) (hv:valsOf args=some l) (hc:callable Tryz.prog f=true)
  (hC:∀β ρ w,Mem W G m β ρ w→Calls Tryz.prog f (List.toArray l) w fun e w'=>∃y:Tn,y.ok t∧Lay w w' [] e (tkV t y) (y.fs t))
  (h:∀y:Tn,y.ok t→(∀φ∈y.fs t,New W [] φ)→(k (tkV t y) (y.fs t)).wpD Tryz.prog W G Q ds):(Tree.call f args m k).wpD Tryz.prog W G Q ds:=
 meetLy (ι:=Tn) (ok:=fun y=>y.ok t) (v:=fun y=>tkV t y) (fs:=fun y=>y.fs t) [] (by simp) hv hc hC h
theorem meetSn {f:FuncId} {args:List Sx.T} {l:List Value} {m:M} {k:Value→List Fact→Tree} (s:Sg) (hv:valsOf args=some l) (hc:callable Tryz.prog f=true)
  (hC:∀β ρ w,Mem W G m β ρ w→Calls Tryz.prog f (List.toArray l) w fun e w'=>∃x:Sn,Sgo x s∧Lay w w' [] e (sgV s x) (sgF x s))
  (h:∀x:Sn,Sgo x s→(∀φ∈sgF x s,New W [] φ)→(k (sgV s x) (sgF x s)).wpD Tryz.prog W G Q ds):(Tree.call f args m k).wpD Tryz.prog W G Q ds:=
 meetLy (ι:=Sn) (ok:=fun x=>Sgo x s) (v:=fun x=>sgV s x) (fs:=fun x=>sgF x s) [] (by simp) hv hc hC h
end
theorem sgs_len {x:Sn} {s:Sg} (h:Sgo x s):x.S.length=s.S.length:=by rw [← h.2.2.2,List.length_map]
theorem sgs_n {x:Sn} {s:Sg} (h:Sgo x s) {n:Nat} (hq:∀q∈s.S,q.1.length≤n):∀q∈x.S,q.n≤n:=fun q hm=>by
 have h1:=(h.2.2.1 q hm).2.1
 have h2:=hq (shdP q) (by rw [← h.2.2.2];exact List.mem_map.2 ⟨q,hm,rfl⟩)
 have h2:(q.L.map acP).length≤n:=h2
 rw [List.length_map] at h2
 omega
theorem sgs_d {x:Sn} {s:Sg} (h:Sgo x s):∀q∈s.S,∀p∈q.1,∀z∈p.2.2,z.d.size≤maxLen:=fun q hq p hp z hz=>by
 rw [← h.2.2.2] at hq
 obtain ⟨r,hr,rfl⟩:=List.mem_map.1 hq
 obtain ⟨a,ha,rfl⟩:=List.mem_map.1 hp
 exact ((h.2.2.1 r hr).2.2 a ha).2.2.2 z hz
theorem step (t:Tk) (y:Tn) (who:Int) (s:Sg) (x:Sn) (w:World) (hM:Most w) (hy:y.ok t) (hyf:∀φ∈y.fs t,∀g,φ.g=some g→∃o,w.heap[g]?=some o∧φ.holds o) (hx:Sgo x s) (hxf:∀φ∈sgF x s,∀g,φ.g=some g→∃o,w.heap[g]?=some o∧φ.holds o) (hm:mayS s=true) (ht:Tsz t) :
  Calls Tryz.prog 53 (List.toArray [tkV t y,.int .i64 who,sgV s x]) w fun e w'=>StA w w' [] e (stepR t who s):=by
 obtain ⟨l8,S8⟩:=may_small hm
 have hxl:=sgs_len hx
 have hq0:∀q∈s.S,q.1.length≤1000:=fun q hq=>by
  obtain ⟨k,hk⟩:=List.mem_iff_getElem?.1 hq
  have:=may_len hm hk
  omega
 have AB:=fun w hM hS=>able t y who s x w hM hS (fun q hq=>Nat.le_trans (sgs_n hx hq0 q hq) (by decide)) (by omega)
 have hR:stepR t who s=pst (stR t who s):=rfl
 have hst:stR t who s=if ableV t who s=true then phaseR t who s else ⟨t,s,[],false⟩:=rfl
 have PH:=fun ha=>phase (t:=t) (y:=y) (who:=who) (s:=s) (x:=x) ha ht hy hx
 have SZ:=fun ha=>step_sz (t:=t) (who:=who) (s:=s) ha ht (sgs_d hx)
 rw [hR,hst]
 clear hR hst
 generalize ableV t who s=ab at *
 refine calls_of_exec Sxu.env_ok.keeps.soon_ Tryz.func53 rfl [(4,(lineT [1,2,4,5,6,0,3,7,8,9,10,11,12] [13,14,15,16],[])),(6,(lineT [0,2,4,6,1,3,5] [7,8,9,10],[]))] (schedQ_ok _ _ (by kernel_rfl)) (y.fs t++sgF x s) (fun φ hφ g hg=>(List.mem_append.1 hφ).elim (fun h=>hyf φ h g hg) (fun h=>hxf φ h g hg)) ?_
 conv=>arg 5;whnf
 refine meetc (f:=102) (v:=.bool ab) rfl (by kernel_rfl) (fun β ρ w' hM'=>AB w' (hM.later hM'.below) (sgs_of hM' hx fun φ hφ=>(show φ∈(y.fs t++sgF x s) from List.mem_append_right _ hφ))) ?_
 cases ab with
 | false=>
  rw [if_neg (by simp)]
  obtain ⟨t1,t2,t3,t4,t5,t6,t7⟩:=ht
  obtain ⟨O,ph,σ,P,rr,pt⟩:=t
  cases pt with
  | false=>
   conv=>arg 5;whnf
   refine meetTn (f:=104) ⟨O,ph,σ,P,rr,false⟩ rfl (by kernel_rfl) (fun β ρ w' hM'=>copied ⟨O,ph,σ,P,rr,false⟩ y w' hy (fun φ hφ g hg=>(hM'.fact φ (show φ∈(y.fs ⟨O,ph,σ,P,rr,false⟩++sgF x s) from List.mem_append_left _ hφ) g hg).2) (by omega) (by omega) (by omega) (by omega)) (fun y2 hy2 new2=>?_)
   conv=>arg 5;whnf
   refine meetSn (f:=105) s rfl (by kernel_rfl) (fun β ρ w' hM'=>copiedS s x w' hx (fun φ hφ g hg=>(hM'.fact φ (show φ∈y2.fs ⟨O,ph,σ,P,rr,false⟩++(y.fs ⟨O,ph,σ,P,rr,false⟩++sgF x s) from List.mem_append_right _ (List.mem_append_right _ hφ)) g hg).2) (by omega) (by omega) (fun q hq=>Nat.le_trans (sgs_n hx hq0 q hq) (by decide))) (fun x2 hx2 new3=>?_)
   conv=>arg 5;whnf
   refine meetO (e:=122) (size:=8) ([]:List Ev).length (cellsE ([]:List Ev)) rfl (by kernel_rfl) (fun β ρ w' hM'=>cloneE ([]:List Ev) none ([]:List Ev).length 0 w' sl0 rfl (fun g hg=>by cases hg) (Nat.zero_le _)) (fun u c_u h_u f_u=>?_)
   conv=>arg 5;whnf
   refine wp_back fun β ρ w' hM'=>st_mk (r:=pst ⟨⟨O,ph,σ,P,rr,false⟩,s,[],false⟩) ⟨y2,x2,u,c_u⟩ ⟨hy2,hx2,h_u⟩ rfl hM' fun φ hφ g hg=>?_
   rcases List.mem_cons.1 hφ with rfl | hφ
   ·exact ⟨.head _,fun g hg=>.inl (newO f_u g hg)⟩
   ·rcases List.mem_append.1 hφ with h | h
    ·exact ⟨(show φ∈rowF (pt u ([]:List Ev).length) (cellsE ([]:List Ev))::(sgF x2 s++(y2.fs ⟨O,ph,σ,P,rr,false⟩++(y.fs ⟨O,ph,σ,P,rr,false⟩++sgF x s))) from .tail _ (List.mem_append_right _ (List.mem_append_left _ h))),new2 φ h⟩
    ·exact ⟨(show φ∈rowF (pt u ([]:List Ev).length) (cellsE ([]:List Ev))::(sgF x2 s++(y2.fs ⟨O,ph,σ,P,rr,false⟩++(y.fs ⟨O,ph,σ,P,rr,false⟩++sgF x s))) from .tail _ (List.mem_append_left _ h)),new3 φ h⟩
  | true=>
   conv=>arg 5;whnf
   refine meetTn (f:=104) ⟨O,ph,σ,P,rr,true⟩ rfl (by kernel_rfl) (fun β ρ w' hM'=>copied ⟨O,ph,σ,P,rr,true⟩ y w' hy (fun φ hφ g hg=>(hM'.fact φ (show φ∈(y.fs ⟨O,ph,σ,P,rr,true⟩++sgF x s) from List.mem_append_left _ hφ) g hg).2) (by omega) (by omega) (by omega) (by omega)) (fun y2 hy2 new2=>?_)
   conv=>arg 5;whnf
   refine meetSn (f:=105) s rfl (by kernel_rfl) (fun β ρ w' hM'=>copiedS s x w' hx (fun φ hφ g hg=>(hM'.fact φ (show φ∈y2.fs ⟨O,ph,σ,P,rr,true⟩++(y.fs ⟨O,ph,σ,P,rr,true⟩++sgF x s) from List.mem_append_right _ (List.mem_append_right _ hφ)) g hg).2) (by omega) (by omega) (fun q hq=>Nat.le_trans (sgs_n hx hq0 q hq) (by decide))) (fun x2 hx2 new3=>?_)
   conv=>arg 5;whnf
   refine meetO (e:=122) (size:=8) ([]:List Ev).length (cellsE ([]:List Ev)) rfl (by kernel_rfl) (fun β ρ w' hM'=>cloneE ([]:List Ev) none ([]:List Ev).length 0 w' sl0 rfl (fun g hg=>by cases hg) (Nat.zero_le _)) (fun u c_u h_u f_u=>?_)
   conv=>arg 5;whnf
   refine wp_back fun β ρ w' hM'=>st_mk (r:=pst ⟨⟨O,ph,σ,P,rr,true⟩,s,[],false⟩) ⟨y2,x2,u,c_u⟩ ⟨hy2,hx2,h_u⟩ rfl hM' fun φ hφ g hg=>?_
   rcases List.mem_cons.1 hφ with rfl | hφ
   ·exact ⟨.head _,fun g hg=>.inl (newO f_u g hg)⟩
   ·rcases List.mem_append.1 hφ with h | h
    ·exact ⟨(show φ∈rowF (pt u ([]:List Ev).length) (cellsE ([]:List Ev))::(sgF x2 s++(y2.fs ⟨O,ph,σ,P,rr,true⟩++(y.fs ⟨O,ph,σ,P,rr,true⟩++sgF x s))) from .tail _ (List.mem_append_right _ (List.mem_append_left _ h))),new2 φ h⟩
    ·exact ⟨(show φ∈rowF (pt u ([]:List Ev).length) (cellsE ([]:List Ev))::(sgF x2 s++(y2.fs ⟨O,ph,σ,P,rr,true⟩++(y.fs ⟨O,ph,σ,P,rr,true⟩++sgF x s))) from .tail _ (List.mem_append_left _ h)),new3 φ h⟩
 | true=>
  rw [if_pos rfl]
  obtain ⟨f,hf,hcf,PC⟩:=PH rfl
  obtain ⟨⟨t1,t2,t3,t4,t5,t6,t7⟩,e1,l1,S1,q1⟩:=SZ rfl
  generalize phaseR t who s=r at *
  obtain ⟨⟨O,ph,σ,P,rr,pt⟩,s',ev,pp⟩:=r
  conv=>arg 5;whnf
  refine meetc (f:=103) (v:=stepsV) rfl (by kernel_rfl) (fun β ρ w' hM'=>steps w') ?_
  conv=>arg 5;whnf
  refine wp_prim (.func (.func f) #[] #[]) (fun w=>hf w) ?_
  conv=>arg 5;whnf
  refine meetSt (f:=f) ⟨⟨O,ph,σ,P,rr,pt⟩,s',ev,pp⟩ (y.fs t++sgF x s) (fun ψ hψ=>hψ) rfl hcf (fun β ρ w' hM'=>PC w' (hM.later hM'.below) (fun φ hφ g hg=>(hM'.fact φ (show φ∈(y.fs t++sgF x s) from List.mem_append_left _ hφ) g hg).2) (fun φ hφ g hg=>(hM'.fact φ (show φ∈(y.fs t++sgF x s) from List.mem_append_right _ hφ) g hg).2)) (fun a ha hnew=>?_)
  obtain ⟨hay,hax,hae⟩:=ha
  have hal:=sgs_len hax
  cases pt with
  | false=>
   conv=>arg 5;whnf
   refine meetTn (f:=104) ⟨O,ph,σ,P,rr,pp⟩ rfl (by kernel_rfl) (fun β ρ w' hM'=>copied ⟨O,ph,σ,P,rr,pp⟩ a.y w' hay (fun φ hφ g hg=>(hM'.fact φ (show φ∈((⟨a.y,a.x,a.ea,a.ec⟩:Sa).fs ⟨⟨O,ph,σ,P,rr,false⟩,s',ev,pp⟩++(y.fs t++sgF x s)) from List.mem_append_left _ (.tail _ (List.mem_append_left _ hφ))) g hg).2) (Nat.le_trans t2 (by decide)) (Nat.le_trans t4 (by decide)) (Nat.le_trans t5 (by decide)) (Nat.le_trans t6 (by decide))) (fun y2 hy2 new2=>?_)
   conv=>arg 5;whnf
   refine meetSn (f:=105) s' rfl (by kernel_rfl) (fun β ρ w' hM'=>copiedS s' a.x w' hax (fun φ hφ g hg=>(hM'.fact φ (show φ∈y2.fs ⟨O,ph,σ,P,rr,pp⟩++((⟨a.y,a.x,a.ea,a.ec⟩:Sa).fs ⟨⟨O,ph,σ,P,rr,false⟩,s',ev,pp⟩++(y.fs t++sgF x s)) from List.mem_append_right _ (List.mem_append_left _ (.tail _ (List.mem_append_right _ hφ)))) g hg).2) (Nat.le_trans l1 (by decide)) (by rw [hal];exact Nat.le_trans S1 (by decide)) (fun q hq=>Nat.le_trans (sgs_n hax q1 q hq) (by decide))) (fun x2 hx2 new3=>?_)
   conv=>arg 5;whnf
   refine meetO (e:=122) (size:=8) ev.length (cellsE ev) rfl (by kernel_rfl) (fun β ρ w' hM'=>cloneE ev a.ea ev.length a.ec w' hae rfl (hM'.at_ (show rowF (pt a.ea ev.length) (cellsE ev)∈sgF x2 s'++(y2.fs ⟨O,ph,σ,P,rr,pp⟩++((⟨a.y,a.x,a.ea,a.ec⟩:Sa).fs ⟨⟨O,ph,σ,P,rr,false⟩,s',ev,pp⟩++(y.fs t++sgF x s))) from List.mem_append_right _ (List.mem_append_right _ (List.mem_append_left _ (.head _))))) (Nat.le_trans e1 (by decide))) (fun u c_u h_u f_u=>?_)
   conv=>arg 5;whnf
   refine wp_back fun β ρ w' hM'=>st_mk (r:=pst ⟨⟨O,ph,σ,P,rr,false⟩,s',ev,pp⟩) ⟨y2,x2,u,c_u⟩ ⟨hy2,hx2,h_u⟩ rfl hM' fun φ hφ g hg=>?_
   rcases List.mem_cons.1 hφ with rfl | hφ
   ·exact ⟨.head _,fun g hg=>.inl (newO f_u g hg)⟩
   ·rcases List.mem_append.1 hφ with h | h
    ·exact ⟨(show φ∈rowF (pt u ev.length) (cellsE ev)::(sgF x2 s'++(y2.fs ⟨O,ph,σ,P,rr,pp⟩++((⟨a.y,a.x,a.ea,a.ec⟩:Sa).fs ⟨⟨O,ph,σ,P,rr,false⟩,s',ev,pp⟩++(y.fs t++sgF x s)))) from .tail _ (List.mem_append_right _ (List.mem_append_left _ h))),new2 φ h⟩
    ·exact ⟨(show φ∈rowF (pt u ev.length) (cellsE ev)::(sgF x2 s'++(y2.fs ⟨O,ph,σ,P,rr,pp⟩++((⟨a.y,a.x,a.ea,a.ec⟩:Sa).fs ⟨⟨O,ph,σ,P,rr,false⟩,s',ev,pp⟩++(y.fs t++sgF x s)))) from .tail _ (List.mem_append_left _ h)),new3 φ h⟩
  | true=>
   conv=>arg 5;whnf
   refine meetTn (f:=104) ⟨O,ph,σ,P,rr,true⟩ rfl (by kernel_rfl) (fun β ρ w' hM'=>copied ⟨O,ph,σ,P,rr,true⟩ a.y w' hay (fun φ hφ g hg=>(hM'.fact φ (show φ∈((⟨a.y,a.x,a.ea,a.ec⟩:Sa).fs ⟨⟨O,ph,σ,P,rr,true⟩,s',ev,pp⟩++(y.fs t++sgF x s)) from List.mem_append_left _ (.tail _ (List.mem_append_left _ hφ))) g hg).2) (Nat.le_trans t2 (by decide)) (Nat.le_trans t4 (by decide)) (Nat.le_trans t5 (by decide)) (Nat.le_trans t6 (by decide))) (fun y2 hy2 new2=>?_)
   conv=>arg 5;whnf
   refine meetSn (f:=105) s' rfl (by kernel_rfl) (fun β ρ w' hM'=>copiedS s' a.x w' hax (fun φ hφ g hg=>(hM'.fact φ (show φ∈y2.fs ⟨O,ph,σ,P,rr,true⟩++((⟨a.y,a.x,a.ea,a.ec⟩:Sa).fs ⟨⟨O,ph,σ,P,rr,true⟩,s',ev,pp⟩++(y.fs t++sgF x s)) from List.mem_append_right _ (List.mem_append_left _ (.tail _ (List.mem_append_right _ hφ)))) g hg).2) (Nat.le_trans l1 (by decide)) (by rw [hal];exact Nat.le_trans S1 (by decide)) (fun q hq=>Nat.le_trans (sgs_n hax q1 q hq) (by decide))) (fun x2 hx2 new3=>?_)
   conv=>arg 5;whnf
   refine meetO (e:=122) (size:=8) ev.length (cellsE ev) rfl (by kernel_rfl) (fun β ρ w' hM'=>cloneE ev a.ea ev.length a.ec w' hae rfl (hM'.at_ (show rowF (pt a.ea ev.length) (cellsE ev)∈sgF x2 s'++(y2.fs ⟨O,ph,σ,P,rr,true⟩++((⟨a.y,a.x,a.ea,a.ec⟩:Sa).fs ⟨⟨O,ph,σ,P,rr,true⟩,s',ev,pp⟩++(y.fs t++sgF x s))) from List.mem_append_right _ (List.mem_append_right _ (List.mem_append_left _ (.head _))))) (Nat.le_trans e1 (by decide))) (fun u c_u h_u f_u=>?_)
   conv=>arg 5;whnf
   refine wp_back fun β ρ w' hM'=>st_mk (r:=pst ⟨⟨O,ph,σ,P,rr,true⟩,s',ev,pp⟩) ⟨y2,x2,u,c_u⟩ ⟨hy2,hx2,h_u⟩ rfl hM' fun φ hφ g hg=>?_
   rcases List.mem_cons.1 hφ with rfl | hφ
   ·exact ⟨.head _,fun g hg=>.inl (newO f_u g hg)⟩
   ·rcases List.mem_append.1 hφ with h | h
    ·exact ⟨(show φ∈rowF (pt u ev.length) (cellsE ev)::(sgF x2 s'++(y2.fs ⟨O,ph,σ,P,rr,true⟩++((⟨a.y,a.x,a.ea,a.ec⟩:Sa).fs ⟨⟨O,ph,σ,P,rr,true⟩,s',ev,pp⟩++(y.fs t++sgF x s)))) from .tail _ (List.mem_append_right _ (List.mem_append_left _ h))),new2 φ h⟩
    ·exact ⟨(show φ∈rowF (pt u ev.length) (cellsE ev)::(sgF x2 s'++(y2.fs ⟨O,ph,σ,P,rr,true⟩++((⟨a.y,a.x,a.ea,a.ec⟩:Sa).fs ⟨⟨O,ph,σ,P,rr,true⟩,s',ev,pp⟩++(y.fs t++sgF x s)))) from .tail _ (List.mem_append_left _ h)),new3 φ h⟩
end Go.Proofs.YtfhgkkcpkcjbmaaGreatDoor.task
