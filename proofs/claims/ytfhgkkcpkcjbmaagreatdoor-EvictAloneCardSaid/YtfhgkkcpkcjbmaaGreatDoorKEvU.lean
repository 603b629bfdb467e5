/- Layer 17 (evict): what he comes to in one round, alone: the pool's Evict. -/
import Derived.Test.YtfhgkkcpkcjbmaaGreatDoorKEvWW
set_option linter.all false
set_option maxHeartbeats 4000000
set_option maxRecDepth 100000
namespace Go.Proofs.YtfhgkkcpkcjbmaaGreatDoor.evict
open Go.RowKit Sx txn queue greedy shard pool Go.Proofs.YtfhgkkcpkcjbmaaGreatDoor.look lock Go.Proofs.YtfhgkkcpkcjbmaaGreatDoor.task
theorem slotV_one (x:Tx) (h:x.ok=true):1≤slotV x:=by
 unfold slotV
 rw [if_pos h]
 have l1:=enc_len x h
 have k1:=h
 simp only [Tx.ok,decide_eq_true_eq] at k1
 generalize (enc x).length=L at l1 ⊢
 have hL:L≤285:=by omega
 unfold sat.slotsV sat.slotsOf
 rw [if_pos (by omega)]
 split <;> omega
theorem drop_same {v b s:Int} {l:List Tx} (h:risesV s b l=true) (hb:v<b):dropV v l=l:=by
 unfold dropV
 exact List.filter_eq_self.2 fun y hy=>by
  have:=(queue.rises_all h y hy).2.2
  have:y.n≠v:=by omega
  simpa using this
theorem drop_slots {s:Int} {t:Tx}:∀{l:List Tx} {b:Int},risesV s b l=true→t∈l→slotsL (dropV t.n l)=slotsL l - slotV t
 | [],_,_,h=>by cases h
 | x::l,b,hr,h=>by
  obtain ⟨r1,r2,r3,r4⟩:=rises_cons hr
  rcases List.mem_cons.1 h with e | h
  ·subst e
   have e1:dropV t.n (t::l)=dropV t.n l:=by unfold dropV;rw [List.filter_cons_of_neg (by simp)]
   rw [e1,drop_same r4 (by omega)]
   have e2:slotsL (t::l)=slotV t+slotsL l:=by simp [slotsL]
   omega
  ·have h9:=(queue.rises_all r4 t h).2.2
   have hne:x.n≠t.n:=by omega
   have e1:dropV t.n (x::l)=x::dropV t.n l:=by unfold dropV;rw [List.filter_cons_of_pos (by simpa using hne)]
   have i1:=drop_slots r4 h
   rw [e1]
   have e2:slotsL (x::dropV t.n l)=slotV x+slotsL (dropV t.n l):=by simp [slotsL]
   have e3:slotsL (x::l)=slotV x+slotsL l:=by simp [slotsL]
   omega
theorem run_shift (who:Int) (v:Ek) (s:Sg) (E:List Ev) (n:Int):∀k,runZ who ⟨v,s,E,n⟩ k=⟨(runZ who ⟨v,s,[],0⟩ k).v,(runZ who ⟨v,s,[],0⟩ k).s,E++(runZ who ⟨v,s,[],0⟩ k).ev,n+(runZ who ⟨v,s,[],0⟩ k).n⟩
 | 0=>by show (⟨v,s,E,n⟩:Rz)=⟨v,s,E++[],n+0⟩;rw [List.append_nil,Int.add_zero]
 | k+1=>by
  have ih:=run_shift who v s E n k
  show stZ who (runZ who ⟨v,s,E,n⟩ k)=⟨(stZ who (runZ who ⟨v,s,[],0⟩ k)).v,(stZ who (runZ who ⟨v,s,[],0⟩ k)).s,E++(stZ who (runZ who ⟨v,s,[],0⟩ k)).ev,n+(stZ who (runZ who ⟨v,s,[],0⟩ k)).n⟩
  rw [ih]
  generalize runZ who ⟨v,s,[],0⟩ k=z
  unfold stZ
  by_cases h:ableE z.v who z.s=true
  ·rw [if_pos h,if_pos h]
   simp only [List.append_assoc,Int.add_assoc]
  ·rw [if_neg h,if_neg h]
theorem lkL_lt (l:List Int) (x:Int) (i:Nat) (hi:i<l.length):∀j,i<j→(lkL l x j)[i]?=some x
 | 0,h=>by omega
 | j+1,h=>by
  rw [lkL]
  rcases Nat.lt_or_ge i j with h1 | h1
  ·rw [List.getElem?_set_ne (by omega)]
   exact lkL_lt l x i hi j h1
  ·obtain rfl:i=j:=by omega
   exact List.getElem?_set_self (by rw [lkL_len];exact hi)
theorem lkL_all {l:List Int} {x:Int} (m:List Int) (hm:m.length=l.length) (h:∀z∈m,z=x):lkL l x l.length=m:=by
 refine List.ext_getElem? fun i=>?_
 rcases Nat.lt_or_ge i l.length with hi | hi
 ·rw [lkL_lt l x i hi _ hi]
  cases hmi:m[i]? with
  | none=>rw [List.getElem?_eq_none_iff] at hmi;omega
  | some z=>rw [h z (List.mem_of_getElem? hmi)]
 ·rw [List.getElem?_eq_none (by rw [lkL_len];exact hi),List.getElem?_eq_none (by omega)]
theorem st_able {who:Int} {v:Ek} {s:Sg} {E:List Ev} {n:Int} (h:ableE v who s=true):stZ who ⟨v,s,E,n⟩=⟨(phaseE v who s).v,(phaseE v who s).s,E++(phaseE v who s).ev,n+if (phaseE v who s).p=true then 1 else 0⟩:=by
 have e:stepE v who s=phaseE v who s:=if_pos h
 unfold stZ
 rw [if_pos h,e]
theorem take_all {s:Sg} {who:Int} (hm:mayS s=true) (hw:1≤who) (ho:overB s=true) (h0:∀z∈s.l,z=0):runZ who ⟨v0,s,[],0⟩ (1+s.l.length)=⟨⟨2,0,tx0,failL 0⟩,lkS s who s.l.length,[],0⟩:=by
 have hl:1≤s.l.length:=by have:=cfg_bd (may_iff.1 hm).1;have:=(may_iff.1 hm).2.1;omega
 have hz:∀i,i<s.l.length→s.l[i]?=some 0:=fun i hi=>by
  rw [List.getElem?_eq_getElem hi,h0 _ (List.getElem_mem hi)]
 obtain ⟨j,hj⟩:∃j,s.l.length=j+1:=⟨s.l.length - 1,by omega⟩
 have e:=idle_run hm hw ho j (by omega) (fun i hi=>hz i (by omega))
 rw [hj]
 show stZ who (runZ who ⟨v0,s,[],0⟩ (1+j))=_
 rw [e]
 have h1:s.l[j]'(by omega)=0:=h0 _ (List.getElem_mem (by omega))
 have ha:ableE (kj j) who (lkS s who j)=true:=by rw [able_kj hm hw (by omega),h1];rfl
 have hn:(j:Int)+1=(lkL s.l who j).length:=by rw [lkL_len];omega
 have hf:takeV (lkL s.l who j) j who=lkL s.l who (j+1):=by
  have hg:at_ (lkL s.l who j) j=0:=by
   unfold at_
   rw [Int.toNat_natCast,lkL_get _ _ _ _ (Nat.le_refl _),hz j (by omega)]
   rfl
  unfold takeV takeE
  rw [has_iff.2 ⟨by omega,by rw [lkL_len];omega⟩,hg,decide_eq_true (show who≥1 from hw)]
  unfold withV
  rw [Int.toNat_natCast]
  rfl
 rw [st_able ha]
 unfold phaseE takeR kj lkS
 simp only [hf,hn,if_true,if_false,reduceIte]
 rfl
def uj (j:Nat) (t:Tx) (P:Pl):Ek:=⟨4,j,t,P⟩
theorem give_at {l:List Int} {who:Int} {j:Nat} (hw:1≤who) (hj:j<l.length) (h:∀z∈l,z=who):giveV (lkL l 0 j) j who=lkL l 0 (j+1)∧(heldV (lkL l 0 j) who).contains (j:Int)=true:=by
 have hg:at_ (lkL l 0 j) j=who:=by
  unfold at_
  rw [Int.toNat_natCast,lkL_get _ _ _ _ (Nat.le_refl _),List.getElem?_eq_getElem hj,h _ (List.getElem_mem hj)]
  rfl
 have hh:hasB (lkL l 0 j) j=true:=has_iff.2 ⟨by omega,by rw [lkL_len];omega⟩
 constructor
 ·unfold giveV giveE
  rw [hh,hg,decide_eq_true (show who≥1 from hw)]
  unfold withV
  rw [Int.toNat_natCast]
  simp only [beq_self_eq_true,Bool.not_true,Bool.or_false,cond_true,cond_false]
  rfl
 ·refine held_has.2 ⟨⟨by omega,by rw [lkL_len];omega⟩,?_⟩
  unfold holdsB
  rw [hg,decide_eq_true (show who≥1 from hw)]
  simp
theorem give_all {s:Sg} {who:Int} (hm:mayS s=true) (hw:1≤who) (h:∀z∈s.l,z=who) (t:Tx) (P:Pl) (E:List Ev) (n:Int):∀j,j<s.l.length→runZ who ⟨uj 0 t P,s,E,n⟩ j=⟨uj j t P,lkS s 0 j,E,n⟩
 | 0,_=>rfl
 | j+1,hj=>by
  have ih:=give_all hm hw h t P E n j (by omega)
  show stZ who (runZ who ⟨uj 0 t P,s,E,n⟩ j)=_
  rw [ih]
  obtain ⟨g1,g2⟩:=give_at hw (show j<s.l.length by omega) h
  have hmj:mayS (lkS s 0 j)=true:=may_l hm (lkL_len _ _ _) (by
   have:∀i,∀z∈lkL s.l 0 i,0≤z:=fun i=>by
    induction i with
    | zero=>exact may_lock hm
    | succ i ih=>exact fun z hz=>(List.mem_or_eq_of_mem_set hz).elim (ih z) (fun e=>by omega)
   exact this j)
  have ha:ableE (uj j t P) who (lkS s 0 j)=true:=by
   unfold ableE
   rw [if_neg (fun h=>h.elim (fun h=>by omega) (fun h=>by rw [hmj] at h;cases h)),if_neg (by show ¬ (4:Int)=0;decide),if_neg (by show ¬ (4:Int)=1;decide),if_neg (by show ¬ ((4:Int)=2∨(4:Int)=3);decide),if_pos (by rfl)]
   exact g2
  rw [st_able ha]
  have hn:¬ ((j:Int)+1=(lkL s.l 0 j).length):=by rw [lkL_len];omega
  rw [show phaseE (uj j t P) who (lkS s 0 j)=giveR (uj j t P) who (lkS s 0 j) from rfl]
  unfold giveR uj lkS
  simp only [g1,hn,if_false,reduceIte,List.append_nil,Bool.false_eq_true,Int.add_zero]
  try rfl
theorem give_end {s:Sg} {who:Int} (hm:mayS s=true) (hw:1≤who) (h:∀z∈s.l,z=who) (t:Tx) (P:Pl) (E:List Ev) (n:Int) (m:List Int) (hml:m.length=s.l.length) (h0:∀z∈m,z=0):runZ who ⟨uj 0 t P,s,E,n⟩ s.l.length=⟨v0,⟨s.C,m,s.t,s.m,s.S⟩,E,n⟩:=by
 have hl:1≤s.l.length:=by have:=cfg_bd (may_iff.1 hm).1;have:=(may_iff.1 hm).2.1;omega
 have hall:=lkL_all (l:=s.l) m hml h0
 obtain ⟨j,hj⟩:∃j,s.l.length=j+1:=⟨s.l.length - 1,by omega⟩
 have e:=give_all hm hw h t P E n j (by omega)
 rw [hj] at hall ⊢
 show stZ who (runZ who ⟨uj 0 t P,s,E,n⟩ j)=_
 rw [e]
 obtain ⟨g1,g2⟩:=give_at hw (show j<s.l.length by omega) h
 have hmj:mayS (lkS s 0 j)=true:=may_l hm (lkL_len _ _ _) (by
  have:∀i,∀z∈lkL s.l 0 i,0≤z:=fun i=>by
   induction i with
   | zero=>exact may_lock hm
   | succ i ih=>exact fun z hz=>(List.mem_or_eq_of_mem_set hz).elim (ih z) (fun e=>by omega)
  exact this j)
 have ha:ableE (uj j t P) who (lkS s 0 j)=true:=by
  unfold ableE
  rw [if_neg (fun h=>h.elim (fun h=>by omega) (fun h=>by rw [hmj] at h;cases h)),if_neg (by show ¬ (4:Int)=0;decide),if_neg (by show ¬ (4:Int)=1;decide),if_neg (by show ¬ ((4:Int)=2∨(4:Int)=3);decide),if_pos (by rfl)]
  exact g2
 rw [st_able ha]
 have hn:(j:Int)+1=(lkL s.l 0 j).length:=by rw [lkL_len];omega
 rw [show phaseE (uj j t P) who (lkS s 0 j)=giveR (uj j t P) who (lkS s 0 j) from rfl]
 unfold giveR uj lkS
 simp only [g1,hn,hall,if_true,if_false,reduceIte,List.append_nil,Bool.false_eq_true,Int.add_zero]
 try rfl
abbrev O6:Oq:=⟨6,0,0,0,ByteArray.empty⟩
theorem do_ev {C:Cf} {P:List PA} (h:pckB C P=true):doP C P O6=evictR C P (worP P):=by unfold doP doR;rw [if_pos h];rfl
theorem round {s:Sg} {who:Int} (hm:mayS s=true) (hw:1≤who) (h0:∀z∈s.l,z=0) (hs:s.t=slotsP (joinS s.S)) (hov:s.C.so<s.t) :
  ∃(s':Sg) (r:Rq) (ev:List Ev),runZ who ⟨v0,s,[],0⟩ (2*s.l.length+3)=⟨v0,s',ev,1⟩∧doP s.C (joinS s.S) O6=(joinS s'.S,r,ev)∧r.e=0∧mayS s'=true∧s'.l=s.l∧s'.C=s.C∧s'.t=slotsP (joinS s'.S)∧s'.t+1≤s.t∧ev.length≤1∧r.l=[]:=by
 obtain ⟨m1,m2,m3,m4,m5,m6⟩:=may_iff.1 hm
 have hcb:=cfg_bd m1
 have hob:overB s=true:=by rw [over_iff hm];exact decide_eq_true hov
 have hpc:=join_pck hm (by omega)
 have hpo:=join_ord (S:=s.S) (fun k q=>may_shard hm)
 have hwt:(worstV ((joinS s.S).map toA)).2=true:=by
  cases hb:(worstV ((joinS s.S).map toA)).2 with
  | true=>rfl
  | false=>
   have:=worst_no hb
   rw [slotsA_P,List.map_map,show (acP∘toA)=_root_.id from rfl,List.map_id] at this
   omega
 obtain ⟨t,ht⟩:∃t,worstV ((joinS s.S).map toA)=(t,true):=⟨(worstV ((joinS s.S).map toA)).1,Prod.ext rfl hwt⟩
 have hwor:worP (joinS s.S)=t:=by unfold worP;rw [ht]
 obtain ⟨κ,q,hκ,hq,hs5,hfd⟩:=worst_s hm ht
 have hwh:=congrArg Prod.snd (cx_who (who:=who) (s:=s) hs5)
 have hσ:=cx_σ (who:=who) (s:=s) hs5
 have hL:=cx_L (who:=who) (s:=s) hs5
 have hsh:shQ s (fnv.shardV t.s s.C.sh)=q:=by rw [hκ];unfold shQ;rw [show ((κ:Int)).toNat=κ from rfl,hq];rfl
 rw [hsh] at hL
 have hd:dropL (getP q.1 t.s) t.n=⟨true,slotsL (dropV t.n (getP q.1 t.s).2.2) - slotsL (getP q.1 t.s).2.2,(getP q.1 t.s).1,(getP q.1 t.s).2.1,dropV t.n (getP q.1 t.s).2.2,[(3,t)],⟨0,t,[],0⟩⟩:=by
  rcases dropL_cases (getP q.1 t.s) t.n with h | ⟨x,h1,h2⟩
  ·unfold dropL at h
   rw [if_pos (by rw [hfd])] at h
   have:=congrArg Pl.ch h
   cases this
  ·rw [hfd] at h1
   obtain rfl:t=x:=congrArg Prod.fst h1
   exact h2
 have hgj:getP (joinS s.S) t.s=getP q.1 t.s:=join_get (fun k q=>may_shard hm) hq hκ
 have hmem:=find_lt hfd
 have hck:checkV (getP q.1 t.s).1 (getP q.1 t.s).2.1 s.C.per (getP q.1 t.s).2.2=true:=by
  rw [getP_s]
  exact getP_ck (may_shard hm hq) ⟨hcb.2.2.2.2.2.2.1,hcb.2.2.2.2.2.2.2⟩ hs5
 have hgin:getP q.1 t.s∈q.1:=by
  rcases getP_or q.1 t.s with ⟨g,_⟩ | ⟨g,_⟩
  ·exact g
  ·rw [g] at hmem;cases hmem
 have hgood:=(good_iff.1 ((shCheck_iff.1 (may_shard hm hq)).2.1 _ hgin).1).1
 have hrises:risesV (getP q.1 t.s).1 (getP q.1 t.s).2.1 (getP q.1 t.s).2.2=true:=hgood.2.2.2.2.2.2.2
 have hok:=(queue.rises_all hrises t hmem).1
 have h1t:=slotV_one t hok
 have hdl:=drop_slots hrises hmem
 have hsg:=slots_get hpo t.s
 rw [hgj] at hsg
 have hsp:=slotsL_pos (dropV t.n (getP q.1 t.s).2.2)
 have hch:(cx t who s).L.ch=true:=by rw [hL,hd]
 have hee:(cx t who s).e=0:=by
  show pot.adjE s.t s.m (cx t who s).L.dl=0
  rw [hL,hd]
  have hmb:pot.mayB s.t s.m=true:=(pot.may_iff _ _).2 ⟨by omega,by omega,by omega,by omega⟩
  unfold pot.adjE
  rw [if_neg (fun k=>k ⟨hmb,by show -s.t≤slotsL (dropV t.n (getP q.1 t.s).2.2) - slotsL (getP q.1 t.s).2.2;omega⟩),if_pos (by show slotsL (dropV t.n (getP q.1 t.s).2.2) - slotsL (getP q.1 t.s).2.2≤_;omega)]
 obtain ⟨hdo,htt⟩:=(pool_end (c:=cx t who s) hm ⟨by show (0:Int)≤1;decide,by show (1:Int)≤3;decide⟩ hs hwh).2.2 hch hee
 have hct:(cx t who s).t+1≤s.t:=by
  show pot.adjT s.t s.m (cx t who s).L.dl+1≤s.t
  rw [hL,hd]
  have hmb:pot.mayB s.t s.m=true:=(pot.may_iff _ _).2 ⟨by omega,by omega,by omega,by omega⟩
  unfold pot.adjT
  rw [if_pos ⟨hmb,by show -s.t≤slotsL (dropV t.n (getP q.1 t.s).2.2) - slotsL (getP q.1 t.s).2.2;omega,by show slotsL (dropV t.n (getP q.1 t.s).2.2) - slotsL (getP q.1 t.s).2.2≤_;omega⟩]
  show s.t+(slotsL (dropV t.n (getP q.1 t.s).2.2) - slotsL (getP q.1 t.s).2.2)+1≤s.t
  omega
 have hmay:mayS ⟨s.C,s.l,(cx t who s).t,s.m,(cx t who s).S⟩=true:=Cx.may4 (c:=cx t who s) hm hwh hch
 refine ⟨⟨s.C,s.l,(cx t who s).t,s.m,(cx t who s).S⟩,(cx t who s).L.r,(cx t who s).L.ev,?_,?_,by rw [hL,hd],hmay,rfl,rfl,htt,hct,by rw [hL,hd];exact Nat.le_refl _,by rw [hL,hd]⟩
 ·have e1:=take_all hm hw hob h0
  have hlw:∀z∈lkL s.l who s.l.length,z=who:=fun z hz=>by
   obtain ⟨i,hi⟩:=List.mem_iff_getElem?.1 hz
   have h1:=(List.getElem?_eq_some_iff.1 hi).1
   rw [lkL_len] at h1
   rw [lkL_lt s.l who i h1 _ h1] at hi
   exact (Option.some.inj hi).symm
  have hfst:firstV (lkL s.l who s.l.length) who=(lkL s.l who s.l.length).length:=by
   have h1:=(srch_le (lackP (lkL s.l who s.l.length) who) (lkL s.l who s.l.length).length 0).2
   rcases Nat.lt_or_ge (firstV (lkL s.l who s.l.length) who) (lkL s.l who s.l.length).length with h2 | h2
   ·have h3:=srch_is (lackP (lkL s.l who s.l.length) who) (lkL s.l who s.l.length).length 0 (by unfold firstV at h2;omega)
    have h4:srch (lackP (lkL s.l who s.l.length) who) (lkL s.l who s.l.length).length 0<(lkL s.l who s.l.length).length:=h2
    unfold lackP holdsB at h3
    have h5:at_ (lkL s.l who s.l.length) (srch (lackP (lkL s.l who s.l.length) who) (lkL s.l who s.l.length).length 0:Nat)=who:=by
     unfold at_
     rw [Int.toNat_natCast,List.getElem?_eq_getElem h4]
     exact hlw _ (List.getElem_mem _)
    unfold lackP holdsB at h5
    rw [h5,decide_eq_true (show who≥1 from hw)] at h3
    simp at h3
   ·unfold firstV at h2 ⊢
    omega
  have hms:mayS (lkS s who s.l.length)=true:=may_l hm (lkL_len _ _ _) (lkL_nn (may_lock hm) hw _)
  have hab2:∀(n:Int),n=2∨n=3→∀(s2:Sg) (i:Int) (tt:Tx) (PP:Pl),mayS s2=true→s2.l=lkL s.l who s.l.length→ableE ⟨n,i,tt,PP⟩ who s2=true:=fun n hn s2 i tt PP hm2 hl2=>by
   unfold ableE
   rw [if_neg (fun h=>h.elim (fun h=>by omega) (fun h=>by rw [hm2] at h;cases h)),if_neg (by show ¬ n=0;omega),if_neg (by show ¬ n=1;omega),if_pos (by exact hn),hl2,hfst]
   exact beq_self_eq_true _
  have e2:runZ who ⟨v0,s,[],0⟩ (1+s.l.length+1)=⟨⟨3,0,t,(cx t who s).L⟩,⟨s.C,lkL s.l who s.l.length,(cx t who s).t,s.m,s.S⟩,(cx t who s).L.ev,1⟩:=by
   show stZ who (runZ who ⟨v0,s,[],0⟩ (1+s.l.length))=_
   rw [e1,st_able (hab2 2 (.inl rfl) _ _ _ _ hms rfl)]
   have hch2:chooseS ⟨2,0,tx0,failL 0⟩ (lkS s who s.l.length)=⟨⟨3,0,t,(cx t who s).L⟩,⟨s.C,lkL s.l who s.l.length,(cx t who s).t,s.m,s.S⟩,(cx t who s).L.ev,true⟩:=by
    unfold chooseS chooseR lkS
    simp only [ht]
    have e3:shQ ⟨s.C,lkL s.l who s.l.length,s.t,s.m,s.S⟩ (fnv.shardV t.s s.C.sh)=q:=hsh
    have e4:overB ⟨s.C,lkL s.l who s.l.length,s.t,s.m,s.S⟩=true:=hob
    simp only [e3,e4]
    have e5:pot.adjE s.t s.m (dropL (getP q.1 t.s) t.n).dl=0:=by rw [← hL];exact hee
    simp only [e5,and_self,if_true,reduceIte]
    rw [← hL]
    rfl
   have hph:phaseE ⟨2,0,tx0,failL 0⟩ who (lkS s who s.l.length)=unl (chooseS ⟨2,0,tx0,failL 0⟩ (lkS s who s.l.length)):=rfl
   rw [hph,hch2]
   unfold unl
   simp only [if_true,reduceIte]
   rfl
  have hms2:mayS ⟨s.C,lkL s.l who s.l.length,(cx t who s).t,s.m,s.S⟩=true:=may_mk hm _ _ _ (lkL_len _ _ _) rfl (lkL_nn (may_lock hm) hw _) (fun k q=>may_shard hm) (Cx.tbd (c:=cx t who s) hm)
  have e3:runZ who ⟨v0,s,[],0⟩ (1+s.l.length+1+1)=⟨uj 0 t (cx t who s).L,⟨s.C,lkL s.l who s.l.length,(cx t who s).t,s.m,(cx t who s).S⟩,(cx t who s).L.ev,1⟩:=by
   show stZ who (runZ who ⟨v0,s,[],0⟩ (1+s.l.length+1))=_
   rw [e2,st_able (hab2 3 (.inr rfl) _ _ _ _ hms2 rfl)]
   have hbd:=Cx.bd (c:=cx t who s) hm hwh
   have eκ:=cx_κ (who:=who) (s:=s) hs5
   have hap:applyS ⟨3,0,t,(cx t who s).L⟩ ⟨s.C,lkL s.l who s.l.length,(cx t who s).t,s.m,s.S⟩=⟨⟨3,0,t,(cx t who s).L⟩,⟨s.C,lkL s.l who s.l.length,(cx t who s).t,s.m,(cx t who s).S⟩,[],false⟩:=by
    unfold applyS
    rw [if_neg (by show ¬ fnv.shardV t.s s.C.sh<0;rw [← eκ];omega)]
    unfold applyE Cx.S Cx.q
    rw [eκ]
    rfl
   have hph:phaseE ⟨3,0,t,(cx t who s).L⟩ who ⟨s.C,lkL s.l who s.l.length,(cx t who s).t,s.m,s.S⟩=unl (applyS ⟨3,0,t,(cx t who s).L⟩ ⟨s.C,lkL s.l who s.l.length,(cx t who s).t,s.m,s.S⟩):=rfl
   rw [hph,hap]
   unfold unl
   simp only [if_false,reduceIte,Bool.false_eq_true,List.append_nil]
   rfl
  have hms3:mayS ⟨s.C,lkL s.l who s.l.length,(cx t who s).t,s.m,(cx t who s).S⟩=true:=may_mk hm _ _ _ (lkL_len _ _ _) Cx.slen (lkL_nn (may_lock hm) hw _) (Cx.Sck (c:=cx t who s) hm hwh hch) (Cx.tbd (c:=cx t who s) hm)
  have e4:=run_add who ⟨v0,s,[],0⟩ (1+s.l.length+1+1) s.l.length
  rw [show 1+s.l.length+1+1+s.l.length=2*s.l.length+3 by omega] at e4
  rw [e4,e3]
  have e5:=give_end hms3 hw hlw t (cx t who s).L (cx t who s).L.ev 1 s.l (lkL_len _ _ _).symm h0
  rw [show (⟨s.C,lkL s.l who s.l.length,(cx t who s).t,s.m,(cx t who s).S⟩:Sg).l.length=s.l.length from lkL_len _ _ _] at e5
  exact e5
 ·rw [do_ev hpc,hwor]
  unfold evictR
  rw [if_neg (by omega)]
  have e:dropP (joinS s.S) t.s t.n=doP s.C (joinS s.S) (cx t who s).o:=by
   unfold doP doR
   rw [if_pos hpc]
   rfl
  rw [e]
  exact hdo
theorem round_no {s:Sg} {who:Int} (hm:mayS s=true) (hs:s.t=slotsP (joinS s.S)) (hov:¬ s.C.so<s.t):doP s.C (joinS s.S) O6=failP (joinS s.S) 7∧ableE v0 who s=false:=by
 have hpc:=join_pck hm (by have:=(may_iff.1 hm).2.2.2.2.2;omega)
 refine ⟨?_,?_⟩
 ·rw [do_ev hpc]
  unfold evictR
  rw [if_pos (by omega)]
 ·unfold ableE
  split
  ·rfl
  ·rw [if_pos (by rfl),over_iff hm]
   exact decide_eq_false hov
theorem join_len {s:Sg} (hm:mayS s=true):(joinS s.S).length≤2048:=by
 have h1:=(may_small hm).2
 have key:∀(S:List (List PA×Int)),(∀q∈S,q.1.length≤256)→(S.flatMap fun q=>q.1).length≤S.length*256:=by
  intro S
  induction S with
  | nil=>intro _;simp
  | cons q S ih=>
   intro h
   have h1:=h q (.head _)
   have h2:=ih fun p hp=>h p (.tail _ hp)
   rw [List.flatMap_cons,List.length_append,List.length_cons]
   omega
 have h3:=key s.S fun q hq=>by
  obtain ⟨k,hk⟩:=List.mem_iff_getElem?.1 hq
  exact may_len hm hk
 unfold joinS
 rw [srt_len]
 omega
theorem do_6w (C:Cf) (L:List Ac) (a:Option Addr) (n c:Nat) (w:World) (hM:Most w) (hA:Acs w a n c L) (h1000:n≤100000) (hck:pckB C (L.map acP)=true) :
  Calls Tryz.prog 18 (List.toArray [C.val,.slice a n c,O6.val]) w fun e w'=>Ans w w' [] e (doP C (L.map acP) O6):=by
 have CK:=fun w hM hA=>pcheck C L a n c w hM hA (by omega)
 rw [do_ev hck,← wor_P]
 refine calls_of_exec Sxs.env_ok.keeps.soon_ Tryz.func18 rfl [(2,(lineN [0,2,3,1,4,5,6,7,8,9] [4],[]))] (schedQ_ok _ _ (by kernel_rfl)) (acsF a n L) hA.facts ?_
 conv=>arg 5;whnf
 refine meetWays (C:=C) (O:=O6) (a:=a) (n:=n) (c:=c) rfl (fun g=>?_)
 conv=>arg 5;whnf
 refine peek_lookup (z:=.nilFunc) (l:=waysM (askV C a n c O6)) Tryz.underlying131 Tryz.underlying3 (fun w=>by kernel_rfl) (.head _) ?_
 rw [hck] at CK
 rw [show lkM (waysM (askV C a n c O6)) O6.k=some (.func (.func 114) #[askV C a n c O6] #[]) from rfl]
 conv=>arg 5;whnf
 refine meetc (f:=57) (v:=.bool true) rfl (by kernel_rfl) (fun β ρ w' hM'=>CK w' (hM.later hM'.below) (Mem.acs hA hM' fun φ hφ=>.tail _ hφ)) ?_
 conv=>arg 5;whnf
 refine opB_An (old:=[]) (R:=evictR C (L.map acP) (worstV L).1) rfl rfl rfl (by kernel_rfl) (by simp) (fun β ρ w' hM'=>pool.evict C O6 L a n c w' (hM.later hM'.below) (Mem.acs hA hM' fun φ hφ=>.tail _ hφ) h1000) (fun x hx hnew=>?_)
 conv=>arg 5;whnf
 refine wp_back fun β ρ w' hM'=>⟨x,hx,rfl,hM'.below,fun φ hφ g hg=>⟨hnew φ hφ g hg,(hM'.fact φ (List.mem_append_left _ hφ) g hg).2⟩⟩
end Go.Proofs.YtfhgkkcpkcjbmaaGreatDoor.evict
