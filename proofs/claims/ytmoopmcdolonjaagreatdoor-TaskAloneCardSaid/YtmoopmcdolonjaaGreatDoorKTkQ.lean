/- Layer 16 (task): plain words: a task that is alone, step by step. -/
import Derived.Test.YtmoopmcdolonjaaGreatDoorKTkRR
set_option linter.all false
set_option maxHeartbeats 4000000
set_option maxRecDepth 100000
namespace Go.Proofs.YtmoopmcdolonjaaGreatDoor.task
open Go.RowKit Sx txn queue greedy shard pool Go.Proofs.YtmoopmcdolonjaaGreatDoor.look lock
section
variable {c : Cx}
def evC (c:Cx) (t:Tk):List Ev:=if t.ph=4∨((t.ph=5∨t.ph=6)∧(whoL c.o).2=true∧c.L.ch=true∧c.e=0) then c.L.ev else []
theorem free0 (hm:mayS c.s=true) (h:(whoL c.o).2=true) (h0:∀z∈c.s.l,z=0):c.ok:=by
 have hb:=Cx.bd hm h
 refine ⟨h,?_⟩
 unfold freeB
 have hh:hasB c.s.l c.κ=true:=has_iff.2 ⟨hb.2.1,hb.2.2.2⟩
 have h1:=at_get (l:=c.s.l) (i:=c.κ) ⟨hb.2.1,hb.2.2.2⟩
 rw [hh,h0 _ (List.mem_of_getElem? h1)]
 rfl
theorem Pth.ph {t:Tk} {s:Sg} (h:Pth c t s):0≤t.ph∧t.ph≤6:=by
 cases h <;> first | exact (show (0:Int)≤0∧(0:Int)≤6 by decide) | exact (show (0:Int)≤1∧(1:Int)≤6 by decide) | exact (show (0:Int)≤2∧(2:Int)≤6 by decide) | exact (show (0:Int)≤3∧(3:Int)≤6 by decide) | exact (show (0:Int)≤4∧(4:Int)≤6 by decide) | exact (show (0:Int)≤5∧(5:Int)≤6 by decide) | exact (show (0:Int)≤6∧(6:Int)≤6 by decide)
theorem Pth.CC {t:Tk} {s:Sg} (h:Pth c t s):s.C=c.s.C:=by cases h <;> rfl
structure Al (c:Cx) (t:Tk) (s:Sg) (r:Sr):Prop where
 able:ableV t c.who s=true
 up:t.ph+1≤r.t.ph
 ev:evC c r.t=evC c t++r.ev
theorem alone_next (hm:mayS c.s=true) (hw:1≤c.who) (h0:∀z∈c.s.l,z=0) {t:Tk} {s:Sg} (h:Pth c t s) (h6:t.ph≠6):Al c t s (stepR t c.who s):=by
 have no:∀{p σ:Int} {P:Pl} {r:Rq} {b:Bool},p≠4→p≠5→p≠6→evC c ⟨c.o,p,σ,P,r,b⟩=[]:=fun h4 h5 h6=>if_neg (fun k=>k.elim h4 (fun k=>k.1.elim h5 h6))
 have n4:∀{p σ:Int} {P:Pl} {r:Rq} {b:Bool},p=4→evC c ⟨c.o,p,σ,P,r,b⟩=c.L.ev:=fun h=>if_pos (.inl h)
 have yes:∀{p σ:Int} {P:Pl} {r:Rq} {b:Bool},p=5∨p=6→(whoL c.o).2=true→c.L.ch=true→c.e=0→evC c ⟨c.o,p,σ,P,r,b⟩=c.L.ev:=fun h a b d=>if_pos (.inr ⟨h,a,b,d⟩)
 have bad:∀{p σ:Int} {P:Pl} {r:Rq} {b:Bool},p≠4→¬ ((whoL c.o).2=true∧c.L.ch=true∧c.e=0)→evC c ⟨c.o,p,σ,P,r,b⟩=[]:=fun h k=>if_neg (fun q=>q.elim h (fun q=>k q.2))
 cases h with
 | a0=>
  cases hq:(whoL c.o).2 with
  | true=>rw [e0 hm hw hq];exact ⟨able_0 hw hm,by show (0:Int)+1≤1;decide,by rw [no (by decide) (by decide) (by decide)];rw [show evC c (newT c.o)=[] from no (p:=0) (by decide) (by decide) (by decide)];rfl⟩
  | false=>rw [e0d hm hw hq];exact ⟨able_0 hw hm,by show (0:Int)+1≤6;decide,by rw [bad (by decide) (fun k=>by rw [hq] at k;cases k.1)];rw [show evC c (newT c.o)=[] from no (p:=0) (by decide) (by decide) (by decide)];rfl⟩
 | d0 h=>exact absurd rfl h6
 | a1 h=>
  have hok:=free0 hm h h0
  rw [e1 hm hw hok]
  exact ⟨(able_1 hw hm).trans hok.2,by show (1:Int)+1≤2;decide,by rw [no (by decide) (by decide) (by decide),no (by decide) (by decide) (by decide)];rfl⟩
 | a2 h=>
  have ha:=able_h (o:=c.o) (P:=failL 0) (r:=R0) (b:=false) hw (Cx.may1 hm hw) (n:=2) (.inl rfl) h rfl rfl
  cases hc:c.L.ch with
  | true=>rw [e2 hm hw h hc];exact ⟨ha,by show (2:Int)+1≤3;decide,by rw [no (by decide) (by decide) (by decide),no (by decide) (by decide) (by decide)];rfl⟩
  | false=>rw [e2b hm hw h hc];exact ⟨ha,by show (2:Int)+1≤5;decide,by rw [bad (by decide) (fun k=>by rw [hc] at k;cases k.2.1),no (by decide) (by decide) (by decide)];rfl⟩
 | a3 h hc=>
  have ha:=able_h (o:=c.o) (P:=c.L) (r:=R0) (b:=false) hw (Cx.may1 hm hw) (n:=3) (.inr (.inl rfl)) h rfl rfl
  by_cases he:c.e=0
  ·rw [e3 hm hw h he];exact ⟨ha,by show (3:Int)+1≤4;decide,by rw [n4 rfl,no (by decide) (by decide) (by decide)];rfl⟩
  ·rw [e3c hm hw h he];exact ⟨ha,by show (3:Int)+1≤5;decide,by rw [bad (by decide) (fun k=>he k.2.2),no (by decide) (by decide) (by decide)];rfl⟩
 | a4 h hc he=>
  have ha:=able_h (o:=c.o) (P:=c.L) (r:=c.L.r) (b:=true) hw (Cx.may2 hm hw) (n:=4) (.inr (.inr (.inl rfl))) h rfl rfl
  rw [e4 hm hw h]
  exact ⟨ha,by show (4:Int)+1≤5;decide,by rw [n4 rfl,yes (.inl rfl) h.1 hc he];exact (List.append_nil _).symm⟩
 | b5 h hc=>
  rw [e5 hw h (Cx.may1 hm hw) rfl rfl]
  exact ⟨able_h hw (Cx.may1 hm hw) (.inr (.inr (.inr rfl))) h rfl rfl,by show (5:Int)+1≤6;decide,by rw [bad (by decide) (fun k=>by rw [hc] at k;cases k.2.1),bad (by decide) (fun k=>by rw [hc] at k;cases k.2.1)];rfl⟩
 | c5 h hc he=>
  rw [e5 hw h (Cx.may1 hm hw) rfl rfl]
  exact ⟨able_h hw (Cx.may1 hm hw) (.inr (.inr (.inr rfl))) h rfl rfl,by show (5:Int)+1≤6;decide,by rw [bad (by decide) (fun k=>he k.2.2),bad (by decide) (fun k=>he k.2.2)];rfl⟩
 | a5 h hc he=>
  rw [e5 hw h (Cx.may3 hm hw h.1 hc) rfl rfl]
  exact ⟨able_h hw (Cx.may3 hm hw h.1 hc) (.inr (.inr (.inr rfl))) h rfl rfl,by show (5:Int)+1≤6;decide,by rw [yes (.inr rfl) h.1 hc he,yes (.inl rfl) h.1 hc he];exact (List.append_nil _).symm⟩
 | b6 h hc=>exact absurd rfl h6
 | c6 h hc he=>exact absurd rfl h6
 | a6 h hc he=>exact absurd rfl h6
theorem alone_end (hm:mayS c.s=true) (hk:0≤c.o.k∧c.o.k≤3) (hs:c.s.t=slotsP (joinS c.s.S)) {t:Tk} {s:Sg} (h:Pth c t s) (h6:t.ph=6):t.pt=true∧doP c.s.C (joinS c.s.S) c.o=(joinS s.S,t.r,evC c t)∧s.t=slotsP (joinS s.S)∧s.l=c.s.l:=by
 have bad:∀{p σ:Int} {P:Pl} {r:Rq} {b:Bool},p≠4→¬ ((whoL c.o).2=true∧c.L.ch=true∧c.e=0)→evC c ⟨c.o,p,σ,P,r,b⟩=[]:=fun h k=>if_neg (fun q=>q.elim h (fun q=>k q.2))
 have yes:∀{p σ:Int} {P:Pl} {r:Rq} {b:Bool},p=5∨p=6→(whoL c.o).2=true→c.L.ch=true→c.e=0→evC c ⟨c.o,p,σ,P,r,b⟩=c.L.ev:=fun h a b d=>if_pos (.inr ⟨h,a,b,d⟩)
 have hp:=join_pck hm (by have:=(may_iff.1 hm).2.2.2.2.2;omega)
 cases h with
 | a0=>cases h6
 | d0 h=>exact ⟨rfl,by rw [bad (by decide) (fun k=>by rw [h] at k;cases k.1),pool_bad hp hk h];rfl,hs,rfl⟩
 | a1=>cases h6
 | a2=>cases h6
 | a3=>cases h6
 | a4=>cases h6
 | b5=>cases h6
 | c5=>cases h6
 | a5=>cases h6
 | b6 h hc=>exact ⟨rfl,by rw [bad (by decide) (fun k=>by rw [hc] at k;cases k.2.1),(pool_end hm hk hs h.1).1 hc],hs,rfl⟩
 | c6 h hc he=>exact ⟨rfl,by rw [bad (by decide) (fun k=>he k.2.2),(pool_end hm hk hs h.1).2.1 hc he],hs,rfl⟩
 | a6 h hc he=>
  have e:=(pool_end hm hk hs h.1).2.2 hc he
  exact ⟨rfl,by rw [yes (.inr rfl) h.1 hc he,e.1];rfl,e.2,rfl⟩
end
end Go.Proofs.YtmoopmcdolonjaaGreatDoor.task
