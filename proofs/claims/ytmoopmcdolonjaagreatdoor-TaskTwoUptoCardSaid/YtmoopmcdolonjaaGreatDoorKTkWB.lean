/- Layer 16 (task): plain words: a task that is alone, step by step. -/
import Derived.Test.YtmoopmcdolonjaaGreatDoorKTkRR
import Derived.Test.YtmoopmcdolonjaaGreatDoorRows
import Derived.Test.YtmoopmcdolonjaaGreatDoorKEnvL
import Derived.Test.YtmoopmcdolonjaaGreatDoorKSxMM
import Derived.Test.YtmoopmcdolonjaaGreatDoorChecked
set_option linter.all false
set_option maxHeartbeats 4000000
set_option maxRecDepth 100000
namespace Go.Proofs.YtmoopmcdolonjaaGreatDoor.task
open Go.RowKit Sx txn queue greedy shard pool Go.Proofs.YtmoopmcdolonjaaGreatDoor.look lock
section
variable {c : Cx}
def evC (c:Cx) (t:Tk):List Ev:=if t.ph=4∨((t.ph=5∨t.ph=6)∧(whoL c.o).2=true∧c.L.ch=true∧c.e=0) then c.L.ev else []
theorem free0 (hm:mayS c.s=true) (h:(whoL c.o).2=true) (h0:∀z∈c.s.l,z=0):c.ok:=by
 have hb:=Cx.bd hm h
 refine⟨h,?_⟩
 unfold freeB
 have hh:hasB c.s.l c.κ=true:=has_iff.2 ⟨hb.2.1,hb.2.2.2⟩
 have h1:=at_get (l:=c.s.l) (i:=c.κ) ⟨hb.2.1,hb.2.2.2⟩
 rw[hh,h0 _ (List.mem_of_getElem? h1)]
 rfl
theorem Pth.ph {t:Tk} {s:Sg} (h:Pth c t s):0≤t.ph∧t.ph≤6:=by
 cases h <;> first|exact (show (0:Int)≤0∧(0:Int)≤6 by decide)|exact (show (0:Int)≤1∧(1:Int)≤6 by decide)|exact (show (0:Int)≤2∧(2:Int)≤6 by decide)|exact (show (0:Int)≤3∧(3:Int)≤6 by decide)|exact (show (0:Int)≤4∧(4:Int)≤6 by decide)|exact (show (0:Int)≤5∧(5:Int)≤6 by decide)|exact (show (0:Int)≤6∧(6:Int)≤6 by decide)
theorem Pth.CC {t:Tk} {s:Sg} (h:Pth c t s):s.C=c.s.C:=by cases h <;> rfl
structure Al (c:Cx) (t:Tk) (s:Sg) (r:Sr):Prop where
 able:ableV t c.who s=true
 up:t.ph+1≤r.t.ph
 ev:evC c r.t=evC c t++r.ev
theorem alone_next (hm:mayS c.s=true) (hw:1≤c.who) (h0:∀z∈c.s.l,z=0) {t:Tk} {s:Sg} (h:Pth c t s) (h6:t.ph≠6):Al c t s (stepR t c.who s):=by
 have no:∀{p σ:Int} {P:Pl} {r:Rq} {b:Bool},p≠4→p≠5→p≠6→evC c ⟨c.o,p,σ,P,r,b⟩=[]:=fun h4 h5 h6=>if_neg (fun k=>k.elim h4 (fun k=>k.1.elim h5 h6))
 have n4:∀{p σ:Int} {P:Pl} {r:Rq} {b:Bool},p=4→evC c ⟨c.o,p,σ,P,r,b⟩=c.L.ev:=fun h=>if_pos (.inl h)
 have yes:∀{p σ:Int} {P:Pl} {r:Rq} {b:Bool},p=5∨p=6→(whoL c.o).2=true→c.L.ch=true→c.e=0→evC c ⟨c.o,p,σ,P,r,b⟩=c.L.ev:=fun h a b d=>if_pos (.inr ⟨h,a,b,d⟩)
 have bad:∀{p σ:Int} {P:Pl} {r:Rq} {b:Bool},p≠4→¬ ((whoL c.o).2=true∧c.L.ch=true∧c.e=0)→evC c ⟨c.o,p,σ,P,r,b⟩=[]:=fun h k=>if_neg (fun q=>q.elim h (fun q=>k q.2))
 cases h with
 |a0=>
  cases hq:(whoL c.o).2 with
  |true=>rw[e0 hm hw hq];exact⟨able_0 hw hm,by show (0:Int)+1≤1;decide,by rw[no (by decide) (by decide) (by decide)];rw[show evC c (newT c.o)=[] from no (p:=0) (by decide) (by decide) (by decide)];rfl⟩
  |false=>rw[e0d hm hw hq];exact⟨able_0 hw hm,by show (0:Int)+1≤6;decide,by rw[bad (by decide) (fun k=>by rw[hq] at k;cases k.1)];rw[show evC c (newT c.o)=[] from no (p:=0) (by decide) (by decide) (by decide)];rfl⟩
 |d0 h=>exact absurd rfl h6
 |a1 h=>
  have hok:=free0 hm h h0
  rw[e1 hm hw hok]
  exact⟨(able_1 hw hm).trans hok.2,by show (1:Int)+1≤2;decide,by rw[no (by decide) (by decide) (by decide),no (by decide) (by decide) (by decide)];rfl⟩
 |a2 h=>
  have ha:=able_h (o:=c.o) (P:=failL 0) (r:=R0) (b:=false) hw (Cx.may1 hm hw) (n:=2) (.inl rfl) h rfl rfl
  cases hc:c.L.ch with
  |true=>rw[e2 hm hw h hc];exact⟨ha,by show (2:Int)+1≤3;decide,by rw[no (by decide) (by decide) (by decide),no (by decide) (by decide) (by decide)];rfl⟩
  |false=>rw[e2b hm hw h hc];exact⟨ha,by show (2:Int)+1≤5;decide,by rw[bad (by decide) (fun k=>by rw[hc] at k;cases k.2.1),no (by decide) (by decide) (by decide)];rfl⟩
 |a3 h hc=>
  have ha:=able_h (o:=c.o) (P:=c.L) (r:=R0) (b:=false) hw (Cx.may1 hm hw) (n:=3) (.inr (.inl rfl)) h rfl rfl
  by_cases he:c.e=0
  ·rw[e3 hm hw h he];exact⟨ha,by show (3:Int)+1≤4;decide,by rw[n4 rfl,no (by decide) (by decide) (by decide)];rfl⟩
  ·rw[e3c hm hw h he];exact⟨ha,by show (3:Int)+1≤5;decide,by rw[bad (by decide) (fun k=>he k.2.2),no (by decide) (by decide) (by decide)];rfl⟩
 |a4 h hc he=>
  have ha:=able_h (o:=c.o) (P:=c.L) (r:=c.L.r) (b:=true) hw (Cx.may2 hm hw) (n:=4) (.inr (.inr (.inl rfl))) h rfl rfl
  rw[e4 hm hw h]
  exact⟨ha,by show (4:Int)+1≤5;decide,by rw[n4 rfl,yes (.inl rfl) h.1 hc he];exact (List.append_nil _).symm⟩
 |b5 h hc=>
  rw[e5 hw h (Cx.may1 hm hw) rfl rfl]
  exact⟨able_h hw (Cx.may1 hm hw) (.inr (.inr (.inr rfl))) h rfl rfl,by show (5:Int)+1≤6;decide,by rw[bad (by decide) (fun k=>by rw[hc] at k;cases k.2.1),bad (by decide) (fun k=>by rw[hc] at k;cases k.2.1)];rfl⟩
 |c5 h hc he=>
  rw[e5 hw h (Cx.may1 hm hw) rfl rfl]
  exact⟨able_h hw (Cx.may1 hm hw) (.inr (.inr (.inr rfl))) h rfl rfl,by show (5:Int)+1≤6;decide,by rw[bad (by decide) (fun k=>he k.2.2),bad (by decide) (fun k=>he k.2.2)];rfl⟩
 |a5 h hc he=>
  rw[e5 hw h (Cx.may3 hm hw h.1 hc) rfl rfl]
  exact⟨able_h hw (Cx.may3 hm hw h.1 hc) (.inr (.inr (.inr rfl))) h rfl rfl,by show (5:Int)+1≤6;decide,by rw[yes (.inr rfl) h.1 hc he,yes (.inl rfl) h.1 hc he];exact (List.append_nil _).symm⟩
 |b6 h hc=>exact absurd rfl h6
 |c6 h hc he=>exact absurd rfl h6
 |a6 h hc he=>exact absurd rfl h6
theorem alone_end (hm:mayS c.s=true) (hk:0≤c.o.k∧c.o.k≤3) (hs:c.s.t=slotsP (joinS c.s.S)) {t:Tk} {s:Sg} (h:Pth c t s) (h6:t.ph=6):t.pt=true∧doP c.s.C (joinS c.s.S) c.o=(joinS s.S,t.r,evC c t)∧s.t=slotsP (joinS s.S)∧s.l=c.s.l:=by
 have bad:∀{p σ:Int} {P:Pl} {r:Rq} {b:Bool},p≠4→¬ ((whoL c.o).2=true∧c.L.ch=true∧c.e=0)→evC c ⟨c.o,p,σ,P,r,b⟩=[]:=fun h k=>if_neg (fun q=>q.elim h (fun q=>k q.2))
 have yes:∀{p σ:Int} {P:Pl} {r:Rq} {b:Bool},p=5∨p=6→(whoL c.o).2=true→c.L.ch=true→c.e=0→evC c ⟨c.o,p,σ,P,r,b⟩=c.L.ev:=fun h a b d=>if_pos (.inr ⟨h,a,b,d⟩)
 have hp:=join_pck hm (by have:=(may_iff.1 hm).2.2.2.2.2;omega)
 cases h with
 |a0=>cases h6
 |d0 h=>exact⟨rfl,by rw[bad (by decide) (fun k=>by rw[h] at k;cases k.1),pool_bad hp hk h];rfl,hs,rfl⟩
 |a1=>cases h6
 |a2=>cases h6
 |a3=>cases h6
 |a4=>cases h6
 |b5=>cases h6
 |c5=>cases h6
 |a5=>cases h6
 |b6 h hc=>exact⟨rfl,by rw[bad (by decide) (fun k=>by rw[hc] at k;cases k.2.1),(pool_end hm hk hs h.1).1 hc],hs,rfl⟩
 |c6 h hc he=>exact⟨rfl,by rw[bad (by decide) (fun k=>he k.2.2),(pool_end hm hk hs h.1).2.1 hc he],hs,rfl⟩
 |a6 h hc he=>
  have e:=(pool_end hm hk hs h.1).2.2 hc he
  exact⟨rfl,by rw[yes (.inr rfl) h.1 hc he,e.1];rfl,e.2,rfl⟩
end
end Go.Proofs.YtmoopmcdolonjaaGreatDoor.task
namespace Go.Proofs.YtmoopmcdolonjaaGreatDoor.task
open Go.RowKit Sx txn queue greedy shard pool Go.Proofs.YtmoopmcdolonjaaGreatDoor.look lock
def Dz (s:Sg):Prop:=∀q∈s.S,∀p∈q.1,∀z∈p.2.2,z.d.size≤maxLen
inductive Idl (C:Cf) (o:Oq):Tk→Prop
 |n:Idl C o (newT o)
 |w (h:(whoL o).2=true):Idl C o ⟨o,1,(whoL o).1,failL 0,R0,false⟩
 |d (h:(whoL o).2=false):Idl C o ⟨o,6,0,failL 0,(lookL C.per C.bp (-1,0,[]) o).r,true⟩
theorem Idl.pth {C:Cf} {o:Oq} {t:Tk} (h:Idl C o t) {who:Int} {s:Sg} (e:s.C=C):Pth ⟨o,who,s⟩ t s:=by
 subst e
 cases h with
 |n=>exact .a0
 |w h=>exact .a1 h
 |d h=>exact .d0 h
structure Fl (a b:Tk) (fa fb:Bool):Prop where
 any:(fa||fb)=(a.pt||b.pt)
 a:fa=true→a.pt=true
 b:fb=true→b.pt=true
 one:fa=true→fb=true→False
theorem Fl.swap {a b:Tk} {fa fb:Bool} (h:Fl a b fa fb):Fl b a fb fa:=⟨by rw[Bool.or_comm,h.any,Bool.or_comm],h.b,h.a,fun x y=>h.one y x⟩
theorem Fl.step {a a' b:Tk} {fa fb p:Bool} (h:Fl a b fa fb) (e:a'.pt=(a.pt||p)):Fl a' b (fa||(p && !(fa||fb))) fb:=by
 obtain⟨h1,h2,h3,h4⟩:=h
 refine⟨?_,?_,h3,?_⟩ <;> revert h1 h2 h3 h4 e <;> generalize a.pt=x <;> generalize b.pt=y <;> generalize a'.pt=z <;> cases fa <;> cases fb <;> cases p <;> cases x <;> cases y <;> cases z <;> simp
structure Two where
 s0:Sg
 oa:Oq
 wa:Int
 ob:Oq
 wb:Int
def Two.sw (c:Two):Two:=⟨c.s0,c.ob,c.wb,c.oa,c.wa⟩
inductive Tw (c:Two) (a b:Tk) (s:Sg) (fa:Bool):Prop
 |i2 (h:Pth ⟨c.oa,c.wa,c.s0⟩ a s) (k:Idl c.s0.C c.ob b):Tw c a b s fa
 |i3 (s1:Sg) (h:Pth ⟨c.oa,c.wa,c.s0⟩ a s1) (h6:a.ph=6) (hw:(whoL c.oa).2=true) (hw2:(whoL c.ob).2=true) (k:Pth ⟨c.ob,c.wb,s1⟩ b s) (hf:fa=true) (hd:Dz s1):Tw c a b s fa
structure W2 (c:Two) (a b:Tk) (s:Sg) (fa fb:Bool):Prop where
 tw:Tw c a b s fa∨Tw c.sw b a s fb
 fl:Fl a b fa fb
theorem W2.swap {c:Two} {a b:Tk} {s:Sg} {fa fb:Bool} (h:W2 c a b s fa fb):W2 c.sw b a s fb fa:=⟨h.tw.symm,h.fl.swap⟩
structure Two.ok (c:Two):Prop where
 m:mayS c.s0=true
 a:1≤c.wa
 b:1≤c.wb
 one:c.s0.C.sh=1
 l:∀z∈c.s0.l,z=0
 d:Dz c.s0
 t:c.s0.t=slotsP (joinS c.s0.S)
 ka:0≤c.oa.k∧c.oa.k≤3
 kb:0≤c.ob.k∧c.ob.k≤3
 za:c.oa.d.size≤1000000
 zb:c.ob.d.size≤1000000
theorem Two.ok.swap {c:Two} (h:c.ok):c.sw.ok:=⟨h.m,h.b,h.a,h.one,h.l,h.d,h.t,h.kb,h.ka,h.zb,h.za⟩
section
variable {c : Two}
theorem Pth.l6 {c:Cx} {t:Tk} {s:Sg} (h:Pth c t s) (h6:t.ph=6):s.l=c.s.l:=by
 cases h <;> first|rfl|cases h6
theorem Pth.lf {c:Cx} {t:Tk} {s:Sg} (h:Pth c t s) (hn:t.ph=0∨t.ph=1):s=c.s:=by
 cases h <;> first|rfl|(rcases hn with e|e <;> cases e)
theorem Pth.hold {c:Cx} {t:Tk} {s:Sg} (h:Pth c t s) (h0:t.ph≠0) (h1:t.ph≠1) (h6:t.ph≠6):c.ok∧s.l=c.l:=by
 cases h with
 |a0=>exact absurd rfl h0
 |d0=>exact absurd rfl h6
 |a1=>exact absurd rfl h1
 |a2 h=>exact⟨h,rfl⟩
 |a3 h=>exact⟨h,rfl⟩
 |a4 h=>exact⟨h,rfl⟩
 |b5 h=>exact⟨h,rfl⟩
 |c5 h=>exact⟨h,rfl⟩
 |a5 h=>exact⟨h,rfl⟩
 |b6=>exact absurd rfl h6
 |c6=>exact absurd rfl h6
 |a6=>exact absurd rfl h6
theorem shard1 {s:Sg} {o:Oq} {w:Int} (hm:mayS s=true) (h1:s.C.sh=1) (h:(whoL o).2=true):Cx.κ ⟨o,w,s⟩=0:=by
 obtain⟨b1,b2,b3⟩:=Cx.bd (c:=⟨o,w,s⟩) hm h
 obtain⟨_,_,h3,_⟩:=may_iff.1 hm
 have b3:=b3.1
 have e:(s.S.length:Int)=1:=by rw[h3,h1]
 have b3:Cx.κ ⟨o,w,s⟩<s.S.length:=b3
 omega
theorem busy {s s':Sg} {o o':Oq} {w w':Int} (hm:mayS s=true) (hC:s'.C=s.C) (h1:s.C.sh=1) (hw:1≤w) (hm':mayS s'=true) (ho:Cx.ok ⟨o,w,s⟩) (hl:s'.l=Cx.l ⟨o,w,s⟩) (h:(whoL o').2=true):freeB s'.l (Cx.κ ⟨o',w',s'⟩)=false:=by
 have e1:=shard1 (w:=w) hm h1 ho.1
 have e2:=shard1 (w:=w') hm' (by rw[hC];exact h1) h
 obtain⟨x1,x2⟩:=Cx.has2 ho
 rw[e1] at x1 x2
 unfold freeB
 rw[e2,hl,x1,x2]
 show (true&&(w==0))=false
 rw[Bool.true_and]
 simp only[beq_eq_false_iff_ne]
 omega
theorem Tw.may (k:c.ok) {a b:Tk} {s:Sg} {fa:Bool} (h:Tw c a b s fa):mayS s=true:=by
 cases h with
 |i2 h=>exact Pth.may (c:=⟨c.oa,c.wa,c.s0⟩) k.m k.a h
 |i3 s1 h _ _ _ k2=>exact Pth.may (c:=⟨c.ob,c.wb,s1⟩) (Pth.may (c:=⟨c.oa,c.wa,c.s0⟩) k.m k.a h) k.b k2
theorem Tw.CC {a b:Tk} {s:Sg} {fa:Bool} (h:Tw c a b s fa):s.C=c.s0.C:=by
 cases h with
 |i2 h=>exact Pth.CC (c:=⟨c.oa,c.wa,c.s0⟩) h
 |i3 s1 h _ _ _ k2=>exact (Pth.CC (c:=⟨c.ob,c.wb,s1⟩) k2).trans (Pth.CC (c:=⟨c.oa,c.wa,c.s0⟩) h)
theorem W2.may (k:c.ok) {a b:Tk} {s:Sg} {fa fb:Bool} (h:W2 c a b s fa fb):mayS s=true:=h.tw.elim (Tw.may k) (Tw.may k.swap)
theorem tsz_of {o:Oq} {w:Int} {s0 s:Sg} {t:Tk} (ho:o.d.size≤1000000) (hm:mayS s0=true) (hd:Dz s0) (h:Pth ⟨o,w,s0⟩ t s):Tsz t:=pth_sz (c:=⟨o,w,s0⟩) ho hm hd h
theorem Tw.sz (k:c.ok) {a b:Tk} {s:Sg} {fa:Bool} (h:Tw c a b s fa):Tsz a∧Tsz b:=by
 cases h with
 |i2 h h2=>exact⟨tsz_of k.za k.m k.d h,tsz_of k.zb k.m k.d (h2.pth (who:=c.wb) rfl)⟩
 |i3 s1 h _ _ _ h2 _ hd=>exact⟨tsz_of k.za k.m k.d h,tsz_of k.zb (Pth.may (c:=⟨c.oa,c.wa,c.s0⟩) k.m k.a h) hd h2⟩
theorem W2.sz (k:c.ok) {a b:Tk} {s:Sg} {fa fb:Bool} (h:W2 c a b s fa fb):Tsz a:=h.tw.elim (fun h=>(Tw.sz k h).1) (fun h=>(Tw.sz k.swap h).2)
theorem Tw.ph (k:c.ok) {a b:Tk} {s:Sg} {fa:Bool} (h:Tw c a b s fa):(0≤a.ph∧a.ph≤6)∧0≤b.ph∧b.ph≤6:=by
 cases h with
 |i2 h h2=>exact⟨Pth.ph h,Pth.ph (h2.pth (who:=c.wb) (s:=c.s0) rfl)⟩
 |i3 s1 h _ _ _ h2 _ hd=>exact⟨Pth.ph h,Pth.ph h2⟩
theorem W2.ph (k:c.ok) {a b:Tk} {s:Sg} {fa fb:Bool} (h:W2 c a b s fa fb):(0≤a.ph∧a.ph≤6)∧0≤b.ph∧b.ph≤6:=h.tw.elim (Tw.ph k) (fun h=>(Tw.ph k.swap h).symm)
theorem Tw.lead (k:c.ok) {a b:Tk} {s:Sg} {fa:Bool} (f:Bool) (h:Tw c a b s fa):Tw c (stepR a c.wa s).t b (stepR a c.wa s).s (fa||f)∧(stepR a c.wa s).t.pt=(a.pt||(stepR a c.wa s).p):=by
 cases h with
 |i2 h h2=>
  have n:=next (c:=⟨c.oa,c.wa,c.s0⟩) k.m k.a h
  exact⟨.i2 n.pth h2,n.pt⟩
 |i3 s1 h h6 w1 w2 h2 hf hd=>
  have hm:=Tw.may k (.i3 s1 h h6 w1 w2 h2 hf hd)
  have e:stepR a c.wa s=⟨a,s,[],false⟩:=by
   obtain⟨O,ph,σ,P,r,pt⟩:=a
   obtain rfl:ph=6:=h6
   exact e6 (c:=⟨c.oa,c.wa,c.s0⟩) k.a hm
  rw[e]
  exact⟨.i3 s1 h h6 w1 w2 h2 (by rw[hf];rfl) hd,(Bool.or_false _).symm⟩
theorem Tw.foll (k:c.ok) {a b:Tk} {s:Sg} {fa fb:Bool} (f:Bool) (hz:Dz s) (h:Tw c a b s fa) (hfl:Fl a b fa fb):(Tw c a (stepR b c.wb s).t (stepR b c.wb s).s fa∨Tw c.sw (stepR b c.wb s).t a (stepR b c.wb s).s (fb||f))∧(stepR b c.wb s).t.pt=(b.pt||(stepR b c.wb s).p):=by
 have hm:=Tw.may k h
 have hC:=Tw.CC h
 cases h with
 |i3 s1 h h6 w1 w2 h2 hf hd=>
  have n:=next (c:=⟨c.ob,c.wb,s1⟩) (Pth.may (c:=⟨c.oa,c.wa,c.s0⟩) k.m k.a h) k.b h2
  exact⟨.inl (.i3 s1 h h6 w1 w2 n.pth hf hd),n.pt⟩
 |i2 h h2=>
  have n:=next (c:=⟨c.ob,c.wb,s⟩) hm k.b (h2.pth hC)
  refine⟨?_,n.pt⟩
  cases h2 with
  |n=>
   cases hw:(whoL c.ob).2 with
   |true=>have e:=e0 (c:=⟨c.ob,c.wb,s⟩) hm k.b hw;rw[show stepR (newT c.ob) c.wb s=_ from e];exact .inl (.i2 h (.w hw))
   |false=>have e:=e0d (c:=⟨c.ob,c.wb,s⟩) hm k.b hw;rw[show stepR (newT c.ob) c.wb s=_ from e];exact .inl (.i2 h (by have:=Idl.d (C:=c.s0.C) hw;unfold badR;rw[show (Cx.s ⟨c.ob,c.wb,s⟩).C=c.s0.C from hC];exact this))
  |d hw=>have e:=e6 (c:=⟨c.ob,c.wb,s⟩) (s:=s) (o:=c.ob) (σ:=0) (P:=failL 0) (r:=(lookL c.s0.C.per c.s0.C.bp (-1,0,[]) c.ob).r) (b:=true) k.b hm;rw[show stepR _ c.wb s=_ from e];exact .inl (.i2 h (.d hw))
  |w hw=>
   cases hf:freeB s.l (Cx.κ ⟨c.ob,c.wb,s⟩) with
   |false=>have e:=e1n (c:=⟨c.ob,c.wb,s⟩) hm k.b hf;rw[show stepR ⟨c.ob,1,(whoL c.ob).1,failL 0,R0,false⟩ c.wb s=_ from e];exact .inl (.i2 h (.w hw))
   |true=>
    have e:=e1 (c:=⟨c.ob,c.wb,s⟩) hm k.b ⟨hw,hf⟩
    rw[show stepR ⟨c.ob,1,(whoL c.ob).1,failL 0,R0,false⟩ c.wb s=_ from e]
    have p2:Pth ⟨c.ob,c.wb,s⟩ ⟨c.ob,2,(whoL c.ob).1,failL 0,R0,false⟩ (Cx.s1 ⟨c.ob,c.wb,s⟩):=.a2 ⟨hw,hf⟩
    have idle:Idl c.s0.C c.oa a→s=c.s0→Tw c.sw ⟨c.ob,2,(whoL c.ob).1,failL 0,R0,false⟩ a (Cx.s1 ⟨c.ob,c.wb,s⟩) (fb||f):=fun hi hs=>by
     subst hs
     exact .i2 p2 hi
    have over:a.ph=6→a.pt=true→(whoL c.oa).2=true→Tw c a ⟨c.ob,2,(whoL c.ob).1,failL 0,R0,false⟩ (Cx.s1 ⟨c.ob,c.wb,s⟩) fa:=fun h6 hp hwa=>by
     refine .i3 s h h6 hwa hw p2 ?_ hz
     have x1:=hfl.any
     have x2:=hfl.b
     rw[hp] at x1
     cases fa with
     |true=>rfl
     |false=>
      cases fb with
      |true=>exact absurd (x2 rfl) (by simp)
      |false=>cases x1
    have no:∀{P:Prop},Cx.ok ⟨c.oa,c.wa,c.s0⟩→s.l=Cx.l ⟨c.oa,c.wa,c.s0⟩→P:=fun ho hl=>by
     have:=busy (w':=c.wb) k.m hC k.one k.a hm ho hl hw
     rw[hf] at this
     cases this
    cases h with
    |a0=>exact .inr (idle .n rfl)
    |d0 q=>exact .inr (idle (.d q) rfl)
    |a1 q=>exact .inr (idle (.w q) rfl)
    |a2 q=>exact no q rfl
    |a3 q=>exact no q rfl
    |a4 q=>exact no q rfl
    |b5 q=>exact no q rfl
    |c5 q=>exact no q rfl
    |a5 q=>exact no q rfl
    |b6 q=>exact .inl (over rfl rfl q.1)
    |c6 q=>exact .inl (over rfl rfl q.1)
    |a6 q=>exact .inl (over rfl rfl q.1)
theorem W2.step (k:c.ok) {a b:Tk} {s:Sg} {fa fb:Bool} (hz:Dz s) (h:W2 c a b s fa fb):W2 c (stepR a c.wa s).t b (stepR a c.wa s).s (fa||((stepR a c.wa s).p && !(fa||fb))) fb:=by
 obtain⟨h,hf⟩:=h
 rcases h with h|h
 ·have n:=Tw.lead k ((stepR a c.wa s).p && !(fa||fb)) h
  exact⟨.inl n.1,hf.step n.2⟩
 ·have n:=Tw.foll k.swap ((stepR a c.wa s).p && !(fa||fb)) hz h hf.swap
  exact⟨n.1.symm,hf.step n.2⟩
def Up (t:Tk) (w:Int) (s:Sg):Prop:=t.ph+1≤(stepR t w s).t.ph
theorem up_of {o:Oq} {w:Int} {s0:Sg} (hm:mayS s0=true) (hw:1≤w) (h0:∀z∈s0.l,z=0) {t:Tk} {s:Sg} (h:Pth ⟨o,w,s0⟩ t s) (h6:t.ph≠6):Up t w s:=(alone_next (c:=⟨o,w,s0⟩) hm hw h0 h h6).up
theorem stay6 {w:Int} {s:Sg} {t:Tk} (hw:1≤w) (hm:mayS s=true) (h6:t.ph=6):stepR t w s=⟨t,s,[],false⟩:=by
 obtain⟨O,ph,σ,P,r,pt⟩:=t
 obtain rfl:ph=6:=h6
 exact e6 (c:=⟨O,w,s⟩) hw hm
def Prog (c:Two) (a b:Tk) (s:Sg):Prop:=Up a c.wa s∨(stepR a c.wa s=⟨a,s,[],false⟩∧(Up b c.wb s∨(a.ph=6∧b.ph=6)))
theorem Tw.prog1 (k:c.ok) {a b:Tk} {s:Sg} {fa:Bool} (h:Tw c a b s fa):Prog c a b s:=by
 have hm:=Tw.may k h
 have hC:=Tw.CC h
 by_cases h6:a.ph=6
 ·refine .inr ⟨stay6 k.a hm h6,?_⟩
  by_cases g6:b.ph=6
  ·exact .inr ⟨h6,g6⟩
  ·cases h with
   |i2 h h2=>
    have hl:s.l=c.s0.l:=Pth.l6 (c:=⟨c.oa,c.wa,c.s0⟩) h h6
    exact .inl (up_of hm k.b (by rw[hl];exact k.l) (h2.pth hC) g6)
   |i3 s1 h _ _ _ h2=>
    have hl:s1.l=c.s0.l:=Pth.l6 (c:=⟨c.oa,c.wa,c.s0⟩) h h6
    exact .inl (up_of (Pth.may (c:=⟨c.oa,c.wa,c.s0⟩) k.m k.a h) k.b (by rw[hl];exact k.l) h2 g6)
 ·cases h with
  |i2 h h2=>exact .inl (up_of k.m k.a k.l h h6)
  |i3 s1 h g6=>exact absurd g6 h6
theorem Tw.prog2 (k:c.ok) {a b:Tk} {s:Sg} {fa:Bool} (h:Tw c a b s fa):Prog c.sw b a s:=by
 have hm:=Tw.may k h
 have hC:=Tw.CC h
 cases h with
 |i3 s1 h g6 _ _ h2=>
  have hl:s1.l=c.s0.l:=Pth.l6 (c:=⟨c.oa,c.wa,c.s0⟩) h g6
  by_cases b6:b.ph=6
  ·exact .inr ⟨stay6 k.b hm b6,.inr ⟨b6,g6⟩⟩
  ·exact .inl (up_of (Pth.may (c:=⟨c.oa,c.wa,c.s0⟩) k.m k.a h) k.b (by rw[hl];exact k.l) h2 b6)
 |i2 h h2=>
  by_cases b6:b.ph=6
  ·refine .inr ⟨stay6 k.b hm b6,?_⟩
   by_cases a6:a.ph=6
   ·exact .inr ⟨b6,a6⟩
   ·exact .inl (up_of k.m k.a k.l h a6)
  ·by_cases hh:a.ph=0∨a.ph=1∨a.ph=6
   ·have hl:s.l=c.s0.l:=by
     rcases hh with e|e|e
     ·rw[Pth.lf (c:=⟨c.oa,c.wa,c.s0⟩) h (.inl e)]
     ·rw[Pth.lf (c:=⟨c.oa,c.wa,c.s0⟩) h (.inr e)]
     ·exact Pth.l6 (c:=⟨c.oa,c.wa,c.s0⟩) h e
    exact .inl (up_of hm k.b (by rw[hl];exact k.l) (h2.pth hC) b6)
   ·obtain⟨ho,hl⟩:=Pth.hold (c:=⟨c.oa,c.wa,c.s0⟩) h (fun e=>hh (.inl e)) (fun e=>hh (.inr (.inl e))) (fun e=>hh (.inr (.inr e)))
    cases h2 with
    |n=>
     refine .inl ?_
     have u:=fun q=>up_of (w:=c.wb) k.m k.b k.l (Idl.pth (C:=c.s0.C) (.n (o:=c.ob)) rfl) q
     cases hw:(whoL c.ob).2 with
     |true=>have e:=e0 (c:=⟨c.ob,c.wb,s⟩) hm k.b hw;show _≤(stepR (newT c.ob) c.wb s).t.ph;rw[show stepR (newT c.ob) c.wb s=_ from e];show (0:Int)+1≤1;decide
     |false=>have e:=e0d (c:=⟨c.ob,c.wb,s⟩) hm k.b hw;show _≤(stepR (newT c.ob) c.wb s).t.ph;rw[show stepR (newT c.ob) c.wb s=_ from e];show (0:Int)+1≤6;decide
    |d=>exact absurd rfl b6
    |w hw=>
     have:=busy (w':=c.wb) k.m hC k.one k.a hm ho hl hw
     have e:=e1n (c:=⟨c.ob,c.wb,s⟩) hm k.b this
     refine .inr ⟨e,.inl (up_of k.m k.a k.l h (fun e=>hh (.inr (.inr e))))⟩
theorem W2.prog (k:c.ok) {a b:Tk} {s:Sg} {fa fb:Bool} (h:W2 c a b s fa fb):Prog c a b s:=h.tw.elim (Tw.prog1 k) (Tw.prog2 k.swap)
def Ord (c:Two) (a b:Tk) (s:Sg):Prop:=∃s1 e1 e2,mayS s1=true∧s1.C=c.s0.C∧doP c.s0.C (joinS c.s0.S) c.oa=(joinS s1.S,a.r,e1)∧doP c.s0.C (joinS s1.S) c.ob=(joinS s.S,b.r,e2)
theorem bad_do {C:Cf} {s:Sg} {o:Oq} {t:Tk} (hm:mayS s=true) (hC:s.C=C) (hs:s.t=slotsP (joinS s.S)) (hk:0≤o.k∧o.k≤3) (h:Idl C o t) (h6:t.ph=6):doP C (joinS s.S) o=(joinS s.S,t.r,[]):=by
 cases h with
 |n=>cases h6
 |w=>cases h6
 |d hw=>
  have hp:=join_pck hm (by have:=(may_iff.1 hm).2.2.2.2.2;omega)
  rw[hC] at hp
  exact pool_bad hp hk hw
theorem Tw.last (k:c.ok) {a b:Tk} {s:Sg} {fa fb:Bool} (h:Tw c a b s fa) (hf:Fl a b fa fb) (h6:a.ph=6) (g6:b.ph=6):(fa=true→Ord c a b s)∧(fb=true→Ord c.sw b a s)∧(fa||fb)=true:=by
 have hm:=Tw.may k h
 have hC:=Tw.CC h
 cases h with
 |i2 h h2=>
  obtain⟨p1,p2,p3,p4⟩:=alone_end (c:=⟨c.oa,c.wa,c.s0⟩) k.m k.ka k.t h h6
  refine⟨fun _=>⟨s,_,_,hm,hC,p2,bad_do hm hC p3 k.kb h2 g6⟩,fun _=>⟨c.s0,_,_,k.m,rfl,bad_do k.m rfl k.t k.kb h2 g6,p2⟩,?_⟩
  rw[hf.any,p1]
  rfl
 |i3 s1 h _ w1 w2 h2 hfa hd=>
  obtain⟨p1,p2,p3,p4⟩:=alone_end (c:=⟨c.oa,c.wa,c.s0⟩) k.m k.ka k.t h h6
  have hm1:=Pth.may (c:=⟨c.oa,c.wa,c.s0⟩) k.m k.a h
  have hC1:s1.C=c.s0.C:=Pth.CC (c:=⟨c.oa,c.wa,c.s0⟩) h
  obtain⟨q1,q2,q3,q4⟩:=alone_end (c:=⟨c.ob,c.wb,s1⟩) hm1 k.kb p3 h2 g6
  refine⟨fun _=>⟨s1,_,evC ⟨c.ob,c.wb,s1⟩ b,hm1,hC1,p2,?_⟩,fun e=>(hf.one hfa e).elim,by rw[hfa];rfl⟩
  have q2:doP s1.C (joinS s1.S) c.ob=_:=q2
  rw[hC1] at q2
  exact q2
theorem W2.last (k:c.ok) {a b:Tk} {s:Sg} {fa fb:Bool} (h:W2 c a b s fa fb) (h6:a.ph=6) (g6:b.ph=6):(fa=true→Ord c a b s)∧(fb=true→Ord c.sw b a s)∧(fa||fb)=true:=by
 obtain⟨h,hf⟩:=h
 rcases h with h|h
 ·exact Tw.last k h hf h6 g6
 ·obtain⟨x,y,z⟩:=Tw.last k.swap h hf.swap g6 h6
  exact⟨y,x,by rw[Bool.or_comm];exact z⟩
theorem W2.zero (k:c.ok):W2 c (newT c.oa) (newT c.ob) c.s0 false false:=⟨.inl (.i2 .a0 .n),⟨rfl,fun h=>(by cases h),fun h=>(by cases h),fun h=>(by cases h)⟩⟩
end
def Mz (m:Int) (c:Two) (a b:Tk) (s:Sg):Prop:=m≤2*(a.ph+b.ph)∨(m≤2*(a.ph+b.ph)+1∧Up a c.wa s)∨(a.ph=6∧b.ph=6)
theorem mz_next {c:Two} {a b:Tk} {s:Sg} {m:Int} (h:Prog c a b s) (hz:Mz m c a b s) (h6:(stepR a c.wa s).t.ph≤6) (ha:a.ph≤6) (hb:b.ph≤6):Mz (m+1) c.sw b (stepR a c.wa s).t (stepR a c.wa s).s:=by
 have go:Up a c.wa s→m≤2*(a.ph+b.ph)+1→Mz (m+1) c.sw b (stepR a c.wa s).t (stepR a c.wa s).s:=fun hu hm=>by
  have hu:a.ph+1≤(stepR a c.wa s).t.ph:=hu
  exact .inl (by omega)
 rcases h with h|⟨e,h⟩
 ·rcases hz with z|⟨z,_⟩|⟨z1,z2⟩
  ·exact go h (by omega)
  ·exact go h z
  ·have hu:a.ph+1≤(stepR a c.wa s).t.ph:=h
   omega
 ·rw[e]
  show m+1≤2*(b.ph+a.ph)∨(m+1≤2*(b.ph+a.ph)+1∧Up b c.wb s)∨(b.ph=6∧a.ph=6)
  rcases hz with z|⟨z,hu⟩|⟨z1,z2⟩
  ·rcases h with h|⟨h1,h2⟩
   ·exact .inr (.inl ⟨by omega,h⟩)
   ·exact .inr (.inr ⟨h2,h1⟩)
  ·have hu:a.ph+1≤(stepR a c.wa s).t.ph:=hu
   rw[e] at hu
   have hu:a.ph+1≤a.ph:=hu
   omega
  ·exact .inr (.inr ⟨z2,z1⟩)
theorem leT_any:∀(l:List Sx.T),Sx.LeT l (List.replicate l.length .any)
 |[]=>trivial
 |_::l=>⟨.inl rfl,leT_any l⟩
theorem leT_app:∀{l r l2 r2:List Sx.T},Sx.LeT l r→Sx.LeT l2 r2→Sx.LeT (l++l2) (r++r2)
 |[],[],_,_,_,h=>h
 |[],_::_,_,_,h,_=>h.elim
 |_::_,[],_,_,h,_=>h.elim
 |_::_,_::_,_,_,h,k=>⟨h.1,leT_app h.2 k⟩
theorem leT_split {l r:List Sx.T} (n m:Nat) (h:Sx.LeT (l.take n) (r.take n)) (h2:r.drop n=List.replicate m .any) (h3:(l.drop n).length=m):Sx.LeT l r:=by
 have e:=leT_app h (leT_any (l.drop n))
 rw[h3,← h2,List.take_append_drop,List.take_append_drop] at e
 exact e
abbrev G1 (u:Option Addr) (J:List Ac) (a:Option Addr) (n:Nat) (bs:List Bool) (x:Sn) (s:Sg):List Fact:=rowF (pt u J.length) (cellsA J)::rowF (pt a n) (bs.map Value.bool)::sgF x s
abbrev G3 (y0 y1:Tn) (t0 t1:Tk) (x:Sn) (s:Sg) (F:List Fact):List Fact:=rowF (pt none 0) (cellsL [])::(y0.fs t0++(y1.fs t1++(sgF x s++F)))
theorem twoA {a b φ:Fact} {Y Y0 Y1 X X0 F:List Fact} (h:φ∈b::(Y++(Y1++(X++F)))):φ∈(a::(Y++X))++(b::(Y0++(Y1++(X0++F)))):=by
 simp only[List.mem_cons,List.mem_append] at *
 rcases h with h|h|h|h|h
 ·exact .inr (.inl h)
 ·exact .inl (.inr (.inl h))
 ·exact .inr (.inr (.inr (.inl h)))
 ·exact .inl (.inr (.inr h))
 ·exact .inr (.inr (.inr (.inr (.inr h))))
theorem twoB {a b φ:Fact} {Y Y0 Y1 X X0 F:List Fact} (h:φ∈b::(Y0++(Y++(X++F)))):φ∈(a::(Y++X))++(b::(Y0++(Y1++(X0++F)))):=by
 simp only[List.mem_cons,List.mem_append] at *
 rcases h with h|h|h|h|h
 ·exact .inr (.inl h)
 ·exact .inr (.inr (.inl h))
 ·exact .inl (.inr (.inl h))
 ·exact .inl (.inr (.inr h))
 ·exact .inr (.inr (.inr (.inr (.inr h))))
theorem W2.zero2 {c:Two} (k:c.ok):W2 c (newT c.oa) (newT c.ob) c.s0 ((-1:Int)==0) ((-1:Int)==1):=by
 rw[show ((-1:Int)==0)=false by decide,show ((-1:Int)==1)=false by decide]
 exact W2.zero k
theorem wp_keep {X G:Prop} (h:X) (f:X→G):G:=f h
theorem rem2 (x y:Operand) (k:Nat) (r:Int) (h:((k % 2:Nat):Int)=r) (w:World):(do eqGuard .rem 3 x y (.int .i64 (k:Int)) (.int .i64 2);pure (Next.value (← binOp .rem 3 (.int .i64 (k:Int)) (.int .i64 2))):Sem Next).run Tryz.prog w=.ok (.value (.int .i64 r)) w:=by
 have h2:Int.tmod (k:Int) 2=r:=by rw[Int.tmod_eq_emod_of_nonneg (by omega)];omega
 simp[eqGuard,go_sem,h2]
theorem W2.leaf {c:Two} {a b:Tk} {s:Sg} {f:Int} {p:Bool} (h:W2 c a b s ((f==0)||(p && !((f==0)||(f==1)))) (f==1)) (hf:f = -1∨f=0∨f=1) :
  (p=true→f<0→W2 c a b s ((0:Int)==0) ((0:Int)==1))∧((p=false∨¬ f<0)→W2 c a b s (f==0) (f==1)):=by
 rcases hf with rfl|rfl|rfl <;> cases p
 ·exact⟨fun h=>(by cases h),fun _=>h⟩
 ·exact⟨fun _ _=>h,fun e=>e.elim (fun e=>by cases e) (fun e=>absurd (by decide) e)⟩
 ·exact⟨fun h=>(by cases h),fun _=>h⟩
 ·exact⟨fun _ e=>absurd e (by decide),fun _=>h⟩
 ·exact⟨fun h=>(by cases h),fun _=>h⟩
 ·exact⟨fun _ e=>absurd e (by decide),fun _=>h⟩
theorem W2.leaf1 {c:Two} {a b:Tk} {s:Sg} {f:Int} {p:Bool} (h:W2 c.sw b a s ((f==1)||(p && !((f==1)||(f==0)))) (f==0)) (hf:f = -1∨f=0∨f=1) :
  (p=true→f<0→W2 c a b s ((1:Int)==0) ((1:Int)==1))∧((p=false∨¬ f<0)→W2 c a b s (f==0) (f==1)):=by
 rcases hf with rfl|rfl|rfl <;> cases p
 ·exact⟨fun h=>(by cases h),fun _=>h.swap⟩
 ·exact⟨fun _ _=>h.swap,fun e=>e.elim (fun e=>by cases e) (fun e=>absurd (by decide) e)⟩
 ·exact⟨fun h=>(by cases h),fun _=>h.swap⟩
 ·exact⟨fun _ e=>absurd e (by decide),fun _=>h.swap⟩
 ·exact⟨fun h=>(by cases h),fun _=>h.swap⟩
 ·exact⟨fun _ e=>absurd e (by decide),fun _=>h.swap⟩
theorem twoE {a:Fact} {Y0 Y1 G F K:List Fact} {φ:Fact} (h:φ∈a::(Y0++(Y1++(G++F)))) (hG:∀ψ∈G,ψ∈K) (hF:∀ψ∈F,ψ∈K):φ∈(a::(Y0++Y1))++K:=by
 rcases List.mem_cons.1 h with rfl|h
 ·exact .head _
 ·rcases List.mem_append.1 h with h|h
  ·exact List.mem_append_left _ (.tail _ (List.mem_append_left _ h))
  ·rcases List.mem_append.1 h with h|h
   ·exact List.mem_append_left _ (.tail _ (List.mem_append_right _ h))
   ·exact List.mem_append_right _ ((List.mem_append.1 h).elim (hG φ) (hF φ))
end Go.Proofs.YtmoopmcdolonjaaGreatDoor.task
namespace Go.Proofs.YtmoopmcdolonjaaGreatDoor.shard
section
variable {α β : Type}
theorem srt_len (f:α→Int) (L:List α):(srt f L).length=L.length:=(srt_perm f L).length_eq
theorem srt_snoc (f:α→Int) (L:List α) (x:α):srt f (L++[x])=ins f x (srt f L):=by unfold srt;rw[List.foldl_append];rfl
end
end Go.Proofs.YtmoopmcdolonjaaGreatDoor.shard
namespace Go.Proofs.YtmoopmcdolonjaaGreatDoor.shard
open Go.RowKit Sx txn queue greedy
theorem allS_take {S:List Shd} {k:Nat} {q:Shd} (h:S[k]?=some q):allS (S.take (k+1))=allS (S.take k)++q.L:=by unfold allS;rw[List.take_add_one,h,List.flatMap_append];simp
theorem allS_le (S:List Shd) (k:Nat):(allS (S.take k)).length≤(allS S).length:=by
 have:allS S=allS (S.take k)++allS (S.drop k):=by unfold allS;rw[← List.flatMap_append,List.take_append_drop]
 rw[this,List.length_append];omega
theorem acF_all {a n} {S:List Shd} {x:Ac} (hx:x∈allS S):acF x∈shsF a n S:=by
 obtain⟨q,hq,hx⟩:=List.mem_flatMap.1 hx
 exact .tail _ (List.mem_flatMap.2 ⟨q,hq,.tail _ (List.mem_map.2 ⟨x,hx,rfl⟩)⟩)
end Go.Proofs.YtmoopmcdolonjaaGreatDoor.shard
namespace Go.Proofs.YtmoopmcdolonjaaGreatDoor.Sx
open Go.RowKit Go.ChangeShapes Go.WideShapes
mutual
def D.bk:D→Nat
 |.i _=>1
 |.b _=>1
 |.s _=>1
 |.t xs=>D.bks xs+1
 |.l xs=>D.bks xs+1
def D.bks:List D→Nat
 |[]=>0
 |x::xs=>x.bk+D.bks xs
end
section
variable {H : Type} {enc : TypeId × Value → H} {P : Program} {W : World} {base : Nat} {spare : Nat → Bool} {held : Bool}
theorem lies_fieldsB {get:Field→Option (DataW H×List MemPlace)} {cs:List Value} (ih:∀{f:Field} {s:Sh} {x:DataW H×List MemPlace},Typed P f.type s→get f=some x→∃d,Lies W s ((cs.drop f.offset).take s.size) d∧d.bk≤Rows.uptoBulk x.1) :
  ∀{fs:List Field} {o:Nat} {l:List Sh} (xs:List (DataW H×List MemPlace)),TypedL P fs o l→(∀(i:Nat) f,fs[i]?=some f→get f=xs[i]?)→fs.length=xs.length→cs.length=o+Sh.sizes l→∃ds,LiesL W l (cs.drop o) ds∧D.bks ds≤Rows.uptoBulkAll (xs.map (·.1))
 |_,_,_,xs,.nil,_,_,hl=>by
  rw[List.drop_eq_nil_of_le (by simp[Sh.sizes] at hl;omega)]
  exact⟨[],.nil,Nat.zero_le _⟩
 |_,o,s::l,[],.cons (f:=f) (fs:=fs) hoff hf htl,h,hn,hl=>by cases hn
 |_,o,s::l,x::xs,.cons (f:=f) (fs:=fs) hoff hf htl,h,hn,hl=>by
  obtain⟨d,hd,hb⟩:=ih hf (h 0 f rfl)
  rw[Sh.sizes] at hl
  obtain⟨ds,hds,hbs⟩:=lies_fieldsB ih xs htl (fun i g hg=>h (i+1) g hg) (by simpa using hn) (by omega)
  rw[hoff] at hd
  refine⟨d::ds,?_,?_⟩
  ·have:=LiesL.cons hd hds
   rwa [← List.drop_drop,List.take_append_drop] at this
  ·rw[D.bks,List.map_cons,Rows.uptoBulkAll]
   omega
theorem lies_partsB {cs:List Value} {e:Sh}:∀(xs:List (DataW H×List MemPlace)) (k:Nat),cs.length=(k+xs.length)*e.size→(∀(i:Nat) x,xs[i]?=some x→∃d,Lies W e ((cs.drop ((k+i)*e.size)).take e.size) d∧d.bk≤Rows.uptoBulk x.1)→∃ds,LiesL W (List.replicate xs.length e) (cs.drop (k*e.size)) ds∧D.bks ds≤Rows.uptoBulkAll (xs.map (·.1))
 |[],k,hl,h=>by
  rw[List.drop_eq_nil_of_le (by simp at hl;omega)]
  exact⟨[],.nil,Nat.zero_le _⟩
 |x::xs,k,hl,h=>by
  obtain⟨d,hd,hb⟩:=h 0 x rfl
  obtain⟨ds,hds,hbs⟩:=lies_partsB xs (k+1) (by rw[hl,List.length_cons];congr 1;omega) (fun i y hy=>by have:=h (i+1) y hy;rwa [show k+(i+1)=k+1+i from by omega] at this)
  refine⟨d::ds,?_,?_⟩
  ·have:=LiesL.cons hd hds
   rw[Nat.add_zero,show (k+1)*e.size=k*e.size+e.size from by rw[Nat.add_mul,Nat.one_mul],← List.drop_drop,List.take_append_drop] at this
   exact this
  ·rw[D.bks,List.map_cons,Rows.uptoBulkAll]
   omega
theorem bks_le {g:Nat→D}:∀(es:List (DataW H×List MemPlace)) (k:Nat),(∀(i:Nat) x,es[i]?=some x→(g (k+i)).bk≤Rows.uptoBulk x.1)→D.bks ((List.range' k es.length).map g)≤Rows.uptoBulkAll (es.map (·.1))
 |[],k,h=>Nat.zero_le _
 |x::es,k,h=>by
  have h1:=h 0 x rfl
  have h2:=bks_le (g:=g) es (k+1) (fun i y hy=>by have:=h (i+1) y hy;rwa [show k+(i+1)=k+1+i from by omega] at this)
  rw[List.length_cons,List.range'_succ,List.map_cons,D.bks,List.map_cons,Rows.uptoBulkAll]
  rw[Nat.add_zero] at h1
  omega
theorem lies_bk:∀(fuel:Nat) {t:TypeId} {s:Sh} {cs:List Value} {x:DataW H×List MemPlace},Typed P t s→DataW.trod enc P W base spare held fuel t cs=some x→∃d,Lies W s cs d∧d.bk≤Rows.uptoBulk x.1:=by
 intro fuel
 induction fuel with
 |zero=>intro t s cs x _ h;simp[DataW.trod] at h
 |succ fuel ih=>
  intro t s cs x ht h
  cases ht with
  |int hu hc=>
   obtain⟨n,hcs,hx,hw⟩:=DataW.trod_int hu h
   subst hcs hx
   simp[Lit.wf,IntKind.min,IntKind.max,IntKind.signed,IntKind.bits] at hw
   exact⟨_,.int ⟨by omega,by omega⟩,by simp[D.bk,Rows.uptoBulk]⟩
  |bool hu hc=>
   obtain⟨n,hcs,hx⟩:=DataW.trod_bool hu h
   subst hcs hx
   exact⟨_,.bool,by simp[D.bk,Rows.uptoBulk]⟩
  |str hu hc=>
   obtain⟨n,hcs,hx,hw⟩:=DataW.trod_string hu h
   subst hcs hx
   exact⟨_,.str hw,by simp[D.bk,Rows.uptoBulk]⟩
  | @row _ e s hu hc he h0=>
   have hsz:=he.size
   rcases DataW.trod_slice hu h with ⟨hcs,hxx⟩|⟨a,len,cap,elems,rest,n,hf,hcs,hxx,_,hl,hm,hel,hx,_⟩
   ·subst hcs hxx
    exact⟨_,.row (ds:=[]) ⟨Nat.le_refl _,by simp[maxLen],fun _=>⟨rfl,rfl⟩⟩ rfl .nil at_none,by simp[D.bk,D.bks,Rows.uptoBulk]⟩
   ·obtain rfl:fuel=n:=by omega
    subst hcs hxx
    have each:∀i,∃q:List Value×D,i<len→CellsAt W (a.add (i*s.size)) q.1∧q.1.length=s.size∧Lies W s q.1 q.2∧∀x,elems[i]?=some x→q.2.bk≤Rows.uptoBulk x.1:=by
     intro i
     by_cases hi:i<len
     ·have h1:=hx i hi
      rw[List.getElem?_eq_getElem (by omega)] at h1
      cases hc2:W.cells? base (a.add (i*P.cellsOf e)) (P.cellsOf e) with
      |none=>rw[hc2] at h1;cases h1
      |some cs'=>
       rw[hc2] at h1
       obtain⟨d,hd,hb⟩:=ih he h1
       obtain⟨_,hlen,hcell⟩:=World.cells?_some hc2
       rw[hsz] at hlen hcell
       refine⟨(cs',d),fun _=>⟨fun j u hu=>?_,hlen,hd,fun x hx=>?_⟩⟩
       ·have hj:j<s.size:=by rw[← hlen];exact (List.getElem?_eq_some_iff.1 hu).1
        exact (hcell j hj).trans hu
       ·rw[List.getElem?_eq_getElem (by omega)] at hx
        rw[← Option.some.inj hx]
        exact hb
     ·exact⟨([],.b true),fun h=>absurd h hi⟩
    obtain⟨f,hf⟩:=Classical.axiomOfChoice each
    have hN:=liesN_of (w:=W) (e:=s) (f:=fun i=>(f i).1) (g:=fun i=>(f i).2) len 0 (fun i hi=>by rw[Nat.zero_add];exact (hf i hi).2.2.1)
    have hB:=bks_le (g:=fun i=>(f i).2) elems 0 (fun i x hx=>by rw[Nat.zero_add];exact (hf i (by have:=(List.getElem?_eq_some_iff.1 hx).1;omega)).2.2.2 x hx)
    rw[hel] at hB
    refine⟨_,.row (ds:=(List.range' 0 len).map fun i=>(f i).2) ⟨hl,hm,fun hn=>by cases hn⟩ (by simp) hN (at_pt (fun hn=>?_) fun j u hu=>?_),?_⟩
    ·rw[hN.length]
     simp only[List.length_map,List.length_range']
     exact Nat.mul_pos (by omega) h0
    ·obtain⟨h1,h2⟩:=flat_get (f:=fun i=>(f i).1) h0 len 0 (fun i hi=>by rw[Nat.zero_add];exact (hf i hi).2.1) j u hu
     rw[Nat.zero_add] at h2
     have:=(hf _ h1).1 _ _ h2
     rwa [Addr.add_add,Nat.mul_comm,Nat.div_add_mod] at this
    ·rw[D.bk,Rows.uptoBulk]
     omega
  | @struct _ fs l hu hl hc=>
   obtain⟨xs,m,hf,hxx,hlen,hn,hi⟩:=DataW.trod_struct hu h
   obtain rfl:fuel=m:=by omega
   subst hxx
   obtain⟨ds,hds,hb⟩:=lies_fieldsB (W:=W) (cs:=cs) (get:=fun f=>DataW.trod enc P W base spare held fuel f.type ((cs.drop f.offset).take (P.cellsOf f.type)))
    (fun {f s x} hf hx=>ih hf (by rw[← hf.size];exact hx)) xs hl (fun i f hf=>hi i f (by rw[← Array.getElem?_toList];exact hf)) (by rw[hn];simp) (by rw[hlen,hc];omega)
   exact⟨_,.flat (by simpa using hds),by rw[D.bk,Rows.uptoBulk];omega⟩
  | @array _ e n s hu he hc=>
   obtain⟨xs,m,hf,hxx,hlen,hn,hi⟩:=DataW.trod_array hu h
   obtain rfl:fuel=m:=by omega
   subst hxx hn
   obtain⟨ds,hds,hb⟩:=lies_partsB (W:=W) (cs:=cs) (e:=s) xs 0 (by rw[hlen,hc];simp) (fun i x hx=>by
    have h2:=hi i (List.getElem?_eq_some_iff.1 hx).1
    rw[he.size] at h2
    rw[Nat.zero_add]
    exact ih he (h2.trans hx))
   exact⟨_,.flat (by simpa using hds),by rw[D.bk,Rows.uptoBulk];omega⟩
end
theorem at_uniq {w:World} {a:Option Addr} {n:Nat} {xs ys:List Value} (h1:At w (pt a n) xs) (h2:At w (pt a n) ys) (hl:xs.length=ys.length) (hn:n=0→xs=[]) (ha:0<n→a.isSome=true):xs=ys:=by
 rcases Nat.eq_zero_or_pos n with h0|h0
 ·have:=hn h0
  subst this
  exact (List.eq_nil_of_length_eq_zero hl.symm).symm
 ·apply List.ext_getElem?
  intro j
  obtain⟨ad,rfl⟩:=Option.isSome_iff_exists.1 (ha h0)
  rw[pt_pos (k:=0) h0] at h1 h2
  cases hx:xs[j]? with
  |none=>
   have:=List.getElem?_eq_none_iff.1 hx
   rw[List.getElem?_eq_none (by omega)]
  |some u=>
   cases hy:ys[j]? with
   |none=>
    have h3:=List.getElem?_eq_none_iff.1 hy
    have h4:=(List.getElem?_eq_some_iff.1 hx).1
    omega
   |some v=>
    have e1:=h1.cell hx
    have e2:=h2.cell hy
    rw[e1] at e2
    exact e2
end Go.Proofs.YtmoopmcdolonjaaGreatDoor.Sx
namespace Go.Proofs.YtmoopmcdolonjaaGreatDoor.task
open Go.RowKit Go.ChangeShapes Go.WideShapes Sx txn queue greedy shard pool Go.Proofs.YtmoopmcdolonjaaGreatDoor.look lock
theorem okWide_array3 {P:Program} {r:Reach} {base n:Nat} {w:World} {t e:TypeId} {v:Value} (ht:P.underlying t=some (.array n e)) (h:Value.okWide P w r base t v):∃cs,v=.agg cs∧cs.size=P.cellsOf t:=by
 simp only[Value.okWide,ht] at h
 obtain⟨cs,h1,h2,_⟩:=h
 exact⟨cs,h1,h2⟩
theorem typed_ops2:Typed Tryz.prog 81 (.flat [.flat shOp,.flat shOp]):=.array (n:=2) Tryz.underlying81 typed_op (by kernel_rfl)
theorem typed_bool:Typed Tryz.prog 4 .bool:=.bool Tryz.underlying4 (by kernel_rfl)
theorem typed_bools:Typed Tryz.prog 82 (.row .bool):=.row Tryz.underlying82 (by kernel_rfl) typed_bool (by decide)
theorem LiesN.bools {w:World}:∀{vs:List Value} {ds:List D},LiesN w .bool vs ds→∃bs:List Bool,vs=bs.map Value.bool∧ds.length=bs.length
 |_,_,.nil=>⟨[],rfl,rfl⟩
 |_,_,.cons h hl=>by
  obtain⟨bs,rfl,h2⟩:=LiesN.bools hl
  cases h with
  |bool=>exact⟨_::bs,rfl,by simp[h2]⟩
theorem accs_bk {w:World} {e:Sh}:∀{xs:List Value} {ds:List D},LiesN w (.flat [.int,.int,.row e]) xs ds→4*ds.length≤D.bks ds
 |_,_,.nil=>Nat.zero_le _
 |_,_,.cons h hl=>by
  have ih:=accs_bk hl
  cases h with
  |flat h=>
  cases h with
  |cons h1 h=>
  cases h with
  |cons h2 h=>
  cases h with
  |cons h3 h=>
  cases h
  cases h1
  cases h2
  cases h3
  rw[List.length_cons]
  simp only[D.bks,D.bk]
  omega
theorem shards_bk {w:World}:∀{xs:List Value} {ds:List D} {S:List Shd},LiesN w shShd xs ds→xs=cellsS S→(∀q∈S,q.n=q.L.length)→4*(allS S).length+S.length≤D.bks ds
 |_,_,[],_,_,_=>Nat.zero_le _
 |_,_,q::S,.nil,e,_=>by
  have:=congrArg List.length e
  simp[cellsS,Shd.cs] at this
 |_,_,q::S,.cons (vs:=vs) h hl,e,hq=>by
  have h2:vs.length=2:=Lies.length h
  have e2:=List.append_inj (e.trans (show cellsS (q::S)=q.cs++cellsS S from List.flatMap_cons)) (by rw[h2];rfl)
  have ih:=shards_bk hl e2.2 (fun p hp=>hq p (.tail _ hp))
  have hqn:=hq q (.head _)
  have e3:=e2.1
  cases h with
  |flat h=>
  cases h with
  |cons h1 h=>
  cases h1 with
  |row hs hn hl2 ha=>
  have e5:=congrArg (fun l:List Value=>l[0]?) e3
  simp only[Shd.cs,List.cons_append,List.getElem?_cons_zero,Option.some.injEq,Value.slice.injEq] at e5
  have b1:=accs_bk hl2
  unfold allS at *
  rw[List.flatMap_cons,List.length_append,List.length_cons]
  simp only[D.bks,D.bk]
  omega
section
variable {H : Type} {enc : TypeId × Value → H} {W : World} {r : Reach} {b0 base : Nat} {spare : Nat → Bool} {held : Bool} {v : Value} {d : DataW H} {p : List MemPlace}
theorem open_bools (hv:Value.okWide Tryz.prog W r b0 82 v) (h:DataW.Trod enc Tryz.prog W base spare held 82 v d p):∃a n c,∃ns:List Bool,v=.slice a n c∧Sl a n c∧n=ns.length∧At W (pt a n) (ns.map Value.bool):=by
 obtain⟨a,n,c,xs,ds,rfl,hs,hn,hl,ha⟩:=open_row Tryz.underlying82 typed_bools hv h
 obtain⟨ns,rfl,h2⟩:=LiesN.bools hl
 exact⟨a,n,c,ns,rfl,hs,by omega,ha⟩
theorem open_ops2 (hv:Value.okWide Tryz.prog W r b0 81 v) (h:DataW.Trod enc Tryz.prog W base spare held 81 v d p):∃O P:Oq,v=.agg (O.cs++P.cs).toArray∧O.fits∧P.fits:=by
 obtain⟨cs,rfl,_⟩:=okWide_array3 Tryz.underlying81 hv
 obtain⟨fuel,hf⟩:=h
 obtain⟨d,hd⟩:=lies_of_trod fuel typed_ops2 hf
 obtain⟨vs,hvs⟩:∃vs,vs=cs.toList:=⟨_,rfl⟩
 replace hd:Lies W (.flat [.flat shOp,.flat shOp]) vs d:=by rw[hvs];exact hd
 cases hd with
 |flat hl=>
 cases hl with
 |cons h1 hl=>
 cases hl with
 |cons h2 hl=>
 cases hl
 cases h1 with
 |flat g1=>
 cases h2 with
 |flat g2=>
 obtain⟨O,rfl,f1⟩:=lies_op g1
 obtain⟨P,rfl,f2⟩:=lies_op g2
 have e:cs=(O.cs++P.cs).toArray:=by apply Array.ext';rw[← hvs];simp
 exact⟨O,P,by rw[e],f1,f2⟩
theorem sight_bk {s:Sg} {x:Sn} (h:DataW.Trod enc Tryz.prog W base spare held 31 (sgV s x) d p) (hI:SgIn W x s):4*(allS x.S).length+x.S.length≤Rows.uptoBulk d:=by
 obtain⟨fuel,hf⟩:=h
 obtain⟨d0,hd,hb⟩:=lies_bk fuel typed_sight hf
 have hb:d0.bk≤Rows.uptoBulk d:=hb
 obtain⟨vs,hvs⟩:∃vs:List Value,vs=[.int .i64 s.C.sh,.int .i64 s.C.so,.int .i64 s.C.hd,.int .i64 s.C.per,.int .i64 s.C.bp,.int .i64 s.C.fd,.int .i64 s.C.wk,.int .i64 s.C.rm]++([.slice x.la s.l.length x.lc]++([.int .i64 s.t,.int .i64 s.m]++[.slice x.sa x.S.length x.sc])):=⟨_,rfl⟩
 replace hd:Lies W (.flat [.flat shCf,.row .int,.flat [.int,.int],.row shShd]) vs d0:=by rw[hvs];exact hd
 cases hd with
 |flat hl=>
 cases hl with
 |cons h0 hl=>
 cases hl with
 |cons h1 hl=>
 cases hl with
 |cons h2 hl=>
 cases hl with
 |cons h3 hl=>
 cases hl
 have hc:=hvs.symm
 have e1:=(List.append_inj hc (Lies.length h0).symm).2
 have e2:=(List.append_inj e1 (Lies.length h1).symm).2
 have e3:=(List.append_inj e2 (Lies.length h2).symm).2
 cases h3 with
 |row hs hn hl ha=>
 have e5:=congrArg (fun l:List Value=>l[0]?) e3
 simp only[List.cons_append,List.getElem?_cons_zero,Option.some.injEq,Value.slice.injEq] at e5
 obtain⟨rfl,rfl,rfl⟩:=e5
 have hx:=hI.2.1
 have hlen:=LiesN.length hl
 have hsz:Sh.size shShd=2:=rfl
 have hcl:(cellsS x.S).length=x.S.length*2:=cellsS_len x.S
 have e6:=at_uniq ha hx.2.2.1 (by rw[hlen,hcl,← hn,hsz]) (fun h=>by rw[← hn,h] at hlen;exact List.eq_nil_of_length_eq_zero (by omega)) (fun h=>hs.some h)
 have b1:=shards_bk hl e6 (fun q hq=>(hx.2.2.2 q hq).1.2.1)
 simp only[D.bk,D.bks] at hb
 omega
end
theorem rjoinW (S:List Shd) (a:Option Addr) (n c:Nat) (w:World) (hs:Sl a n c) (hn:n=S.length) (hq0:∀q∈S,Sl q.a q.n q.c∧q.n=q.L.length) (hF:∀φ∈shsF a n S,∀g,φ.g=some g→∃o,w.heap[g]?=some o∧φ.holds o) (hall:(allS S).length≤900000) :
  Calls Tryz.prog 10 (List.toArray [.slice a n c]) w fun e w'=>∃i:One,Sl i.1 (srt (fun x:Ac=>x.s) (allS S)).length i.2∧Gives w w' e (.slice i.1 (srt (fun x:Ac=>x.s) (allS S)).length i.2) [rowF (pt i.1 (srt (fun x:Ac=>x.s) (allS S)).length) (cellsA (srt (fun x:Ac=>x.s) (allS S)))]:=by
 have hn63:=hs.le
 refine calls_of_exec Sxs.env_ok.keeps Tryz.func10 rfl [] (schedQ_ok _ _ (by kernel_rfl)) (shsF a n S) hF ?_
 conv=>arg 5;whnf
 refine loop_fact (rowF none []) (fun g hg=>by cases hg) ?_
 refine loop_rule Sxs.env_ok.keeps [] (schedQ_ok _ _ (by kernel_rfl)) (fun i:Nat×One=>i.1≤n∧Sl i.2.1 (srt (fun x:Ac=>x.s) (allS (S.take i.1))).length i.2.2∧(∀g,(rowF (pt i.2.1 (srt (fun x:Ac=>x.s) (allS (S.take i.1))).length) (cellsA (srt (fun x:Ac=>x.s) (allS (S.take i.1))))).g=some g→w.heap.size≤g)) (fun i=>(⟨[],[],rowF (pt i.2.1 (srt (fun x:Ac=>x.s) (allS (S.take i.1))).length) (cellsA (srt (fun x:Ac=>x.s) (allS (S.take i.1))))::shsF a n S⟩,[.v (.slice a n c),.any,.any,.v (.slice i.2.1 (srt (fun x:Ac=>x.s) (allS (S.take i.1))).length i.2.2),.v (.int .i64 i.1),.any,.any,.any,.any,.any,.any,.any,.any,.any,.any,.any,.any,.any,.any,.any,.any,.any,.any,.any,.any,.any,.any,.any,.any,.any,.any,.any,.any])) (fun i=>n - i.1) (0,(none,0)) ⟨Nat.zero_le _,⟨Nat.le_refl _,Nat.zero_le _,fun _=>⟨rfl,rfl⟩⟩,fun g hg=>by cases hg⟩ ⟨by repeat' first|exact trivial|refine⟨.inl rfl,?_⟩|refine⟨.inr rfl,?_⟩,⟨by repeat' first|exact trivial|refine⟨.inl rfl,?_⟩|refine⟨.inr rfl,?_⟩,by repeat' first|exact trivial|refine⟨.inl rfl,?_⟩|refine⟨.inr rfl,?_⟩,fun _ h=>h⟩,rfl⟩ ?_
 rintro⟨k,o⟩ ⟨hk,ho,hfr⟩
 have hk:k≤n:=hk
 have ho:Sl o.1 (srt (fun x:Ac=>x.s) (allS (S.take k))).length o.2:=ho
 conv=>arg 5;whnf
 refine wp_br (fun h1=>?_) (fun h1=>?_)
 ·have hlt:k<n:=by have h3:=of_decide_eq_true (show decide ((k:Int)<(n:Int))=true from h1);omega
  obtain⟨q,hq⟩:∃q,S[k]?=some q:=⟨_,List.getElem?_eq_getElem (by omega)⟩
  have hqm:q∈S:=List.mem_of_getElem? hq
  obtain⟨qs,qn⟩:=hq0 q hqm
  have htk:=allS_take hq
  have hb1:=allS_le S (k+1)
  have hq63:=qs.le
  have hmem:rowF (pt q.a q.n) (cellsA q.L)∈shsF a n S:=.tail _ (List.mem_flatMap.2 ⟨q,hqm,.head _⟩)
  conv=>arg 5;whnf
  refine loop_rule Sxs.env_ok.keeps [] (schedQ_ok _ _ (by kernel_rfl)) (fun i:Nat×One=>i.1≤q.n∧Sl i.2.1 (srt (fun x:Ac=>x.s) (allS (S.take k)++q.L.take i.1)).length i.2.2∧(∀g,(rowF (pt i.2.1 (srt (fun x:Ac=>x.s) (allS (S.take k)++q.L.take i.1)).length) (cellsA (srt (fun x:Ac=>x.s) (allS (S.take k)++q.L.take i.1)))).g=some g→w.heap.size≤g)) (fun i=>(⟨[],[],rowF (pt i.2.1 (srt (fun x:Ac=>x.s) (allS (S.take k)++q.L.take i.1)).length) (cellsA (srt (fun x:Ac=>x.s) (allS (S.take k)++q.L.take i.1)))::shsF a n S⟩,[.v (.slice a n c),.any,.any,.v (.slice i.2.1 (srt (fun x:Ac=>x.s) (allS (S.take k)++q.L.take i.1)).length i.2.2),.v (.int .i64 k),.v (.int .i64 i.1),.any,.any,.any,.any,.any,.any,.any,.any,.any,.any,.any,.any,.any,.any,.any,.any,.any,.any,.any,.any,.any,.any,.any,.any,.any,.any,.any])) (fun i=>q.n - i.1) (0,o) ⟨Nat.zero_le _,by rw[List.take_zero,List.append_nil];exact ho,by rw[List.take_zero,List.append_nil];exact hfr⟩ (by rw[List.take_zero,List.append_nil];exact⟨by repeat' first|exact trivial|refine⟨.inl rfl,?_⟩|refine⟨.inr rfl,?_⟩,⟨by repeat' first|exact trivial|refine⟨.inl rfl,?_⟩|refine⟨.inr rfl,?_⟩,by repeat' first|exact trivial|refine⟨.inl rfl,?_⟩|refine⟨.inr rfl,?_⟩,fun _ h=>h⟩,rfl⟩) ?_
  rintro⟨t,p⟩ ⟨ht,hp,hpf⟩
  have ht:t≤q.n:=ht
  have hp:Sl p.1 (srt (fun x:Ac=>x.s) (allS (S.take k)++q.L.take t)).length p.2:=hp
  conv=>arg 5;whnf
  refine wp_must ⟨by omega,by show (k:Int)<(n:Int);omega,hs.some hlt⟩ ?_
  conv=>arg 5;whnf
  refine readF (sz:=2) (k:=k) (f:=0) (.slice q.a q.n q.c) rfl (by exact .tail _ (.head _)) hlt (hs.some hlt) (cellsS_at hq 0 _ rfl) rfl ?_
  conv=>arg 5;whnf
  refine wp_br (fun h2=>?_) (fun h2=>?_)
  ·have hlt2:t<q.n:=by have h3:=of_decide_eq_true (show decide ((t:Int)<(q.n:Int))=true from h2);omega
   obtain⟨x,hx⟩:∃x,q.L[t]?=some x:=⟨_,List.getElem?_eq_getElem (by omega)⟩
   have htt:srt (fun x:Ac=>x.s) (allS (S.take k)++q.L.take (t+1))=ins (fun x:Ac=>x.s) x (srt (fun x:Ac=>x.s) (allS (S.take k)++q.L.take t)):=by rw[List.take_add_one,hx,← List.append_assoc];exact srt_snoc _ _ _
   have hl9:(srt (fun x:Ac=>x.s) (allS (S.take k)++q.L.take t)).length≤1000000:=by
    rw[srt_len,List.length_append,List.length_take]
    rw[htk,List.length_append] at hb1
    omega
   have PT:=fun w hr=>rput (srt (fun x:Ac=>x.s) (allS (S.take k)++q.L.take t)) x p.1 _ p.2 w hp rfl hr hl9
   rw[← htt] at PT
   conv=>arg 5;whnf
   refine wp_must ⟨by omega,by show (k:Int)<(n:Int);omega,hs.some hlt⟩ ?_
   conv=>arg 5;whnf
   refine readF (sz:=2) (k:=k) (f:=0) (.slice q.a q.n q.c) rfl (by exact .tail _ (.head _)) hlt (hs.some hlt) (cellsS_at hq 0 _ rfl) rfl ?_
   conv=>arg 5;whnf
   refine wp_must ⟨by omega,by show (t:Int)<(q.n:Int);omega,qs.some hlt2⟩ ?_
   conv=>arg 5;whnf
   refine readG Sxs.env_ok (vs:=x.cs) (sz:=3) (k:=t) rfl rfl (by exact .tail _ hmem) hlt2 (qs.some hlt2) (cellsA_at hx) rfl ?_
   conv=>arg 5;whnf
   refine meet1F (f:=31) (n:=(srt (fun x:Ac=>x.s) (allS (S.take k)++q.L.take (t+1))).length) (v:=fun a1 c1=>.slice a1 (srt (fun x:Ac=>x.s) (allS (S.take k)++q.L.take (t+1))).length c1) (xs:=cellsA (srt (fun x:Ac=>x.s) (allS (S.take k)++q.L.take (t+1)))) rfl (by kernel_rfl) (fun β ρ w' hM'=>PT w' (hM'.at_ (.head _))) (fun y c_y h_y f_y=>?_)
   conv=>arg 5;whnf
   refine wp_must ⟨by show -9223372036854775808≤(t:Int)+1;omega,by show (t:Int)+1≤9223372036854775807;omega⟩ ?_
   conv=>arg 5;whnf
   refine wp_end ⟨(t+1,(y,c_y)),⟨hlt2,h_y,f_y⟩,⟨by repeat' first|exact trivial|refine⟨.inl rfl,?_⟩|refine⟨.inr rfl,?_⟩,⟨by repeat' first|exact trivial|refine⟨.inl rfl,?_⟩|refine⟨.inr rfl,?_⟩,by repeat' first|exact trivial|refine⟨.inl rfl,?_⟩|refine⟨.inr rfl,?_⟩,fun φ hφ=>(List.mem_cons.1 hφ).elim (fun e=>by subst e;exact .head _) fun h=>.tail _ (.tail _ h)⟩,rfl⟩,by show q.n - (t+1)<q.n - t;omega⟩
  ·have hte:t=q.n:=by have h3:=of_decide_eq_false (show decide ((t:Int)<(q.n:Int))=false from h2);omega
   have e:q.L.take t=q.L:=List.take_of_length_le (by omega)
   rw[e,← htk] at hp hpf
   conv=>arg 5;whnf
   refine wp_must ⟨by show -9223372036854775808≤(k:Int)+1;omega,by show (k:Int)+1≤9223372036854775807;omega⟩ ?_
   conv=>arg 5;whnf
   refine wp_end ⟨(k+1,p),⟨hlt,hp,hpf⟩,(by rw[e,← htk];exact⟨by repeat' first|exact trivial|refine⟨.inl rfl,?_⟩|refine⟨.inr rfl,?_⟩,⟨by repeat' first|exact trivial|refine⟨.inl rfl,?_⟩|refine⟨.inr rfl,?_⟩,by repeat' first|exact trivial|refine⟨.inl rfl,?_⟩|refine⟨.inr rfl,?_⟩,fun _ h=>h⟩,rfl⟩),by show n - (k+1)<n - k;omega⟩
 ·have hkn:k=n:=by have h3:=of_decide_eq_false (show decide ((k:Int)<(n:Int))=false from h1);omega
  have e:S.take k=S:=List.take_of_length_le (by omega)
  rw[e] at ho hfr
  rw[e]
  conv=>arg 5;whnf
  refine wp_back fun β ρ w' hM'=>⟨o,ho,rfl,hM'.below,fun φ hφ g' hg'=>?_⟩
  simp only[List.mem_singleton] at hφ
  subst hφ
  exact⟨hfr g' hg',hM'.at_ (.head _) g' hg'⟩
end Go.Proofs.YtmoopmcdolonjaaGreatDoor.task
namespace Go.Proofs.YtmoopmcdolonjaaGreatDoor.Sxv
open Go.RowKit Sx Sxk
def env1:Sx.Env:={
 zero:=[(69,[.v (.int .i64 0),.v (.int .i64 0)]),(83,[.v (.int .i64 0),.v (.int .i64 0),.v (.int .i64 0),.v (.int .i64 0),.v (.string ByteArray.empty),.v (.int .i64 0),.v (.int .i64 0),.v (.bool false),.v (.int .i64 0),.v (.int .i64 0),.v (.int .i64 0),.v (.slice none 0 0),.v (.slice none 0 0),.v (.int .i64 0),.v (.int .i64 0),.v (.int .i64 0),.v (.int .i64 0),.v (.int .i64 0),.v (.int .i64 0),.v (.string ByteArray.empty),.v (.slice none 0 0),.v (.int .i64 0),.v (.int .i64 0),.v (.int .i64 0),.v (.int .i64 0),.v (.int .i64 0),.v (.int .i64 0),.v (.int .i64 0),.v (.string ByteArray.empty),.v (.slice none 0 0),.v (.int .i64 0),.v (.bool false),.v (.int .i64 0),.v (.int .i64 0),.v (.int .i64 0),.v (.int .i64 0),.v (.string ByteArray.empty),.v (.int .i64 0),.v (.int .i64 0),.v (.bool false),.v (.int .i64 0),.v (.int .i64 0),.v (.int .i64 0),.v (.slice none 0 0),.v (.slice none 0 0),.v (.int .i64 0),.v (.int .i64 0),.v (.int .i64 0),.v (.int .i64 0),.v (.int .i64 0),.v (.int .i64 0),.v (.string ByteArray.empty),.v (.slice none 0 0),.v (.int .i64 0),.v (.int .i64 0),.v (.int .i64 0),.v (.int .i64 0),.v (.int .i64 0),.v (.int .i64 0),.v (.int .i64 0),.v (.string ByteArray.empty),.v (.slice none 0 0),.v (.int .i64 0),.v (.bool false)]),(81,[.v (.int .i64 0),.v (.int .i64 0),.v (.int .i64 0),.v (.int .i64 0),.v (.string ByteArray.empty),.v (.int .i64 0),.v (.int .i64 0),.v (.int .i64 0),.v (.int .i64 0),.v (.string ByteArray.empty)]),(82,[.v (.slice none 0 0)])]
 agg:=[(69,some 2),(83,some 64),(81,some 10),(82,none)]
 off:=[]
 row:=[(82,(4,1,1))]
 str:=[]
 strs:=[]
 ints:=[]
 how:=[]
 meth:=[]
 opens:=[]
 arr:=[(69,(2,1)),(83,(2,32)),(81,(2,5))] }
theorem env1_ok:Sx.Env.Ok env1 Tryz.prog where
 zero:=by
  intro e cs h
  have hm:=lk_mem h
  simp only[env1,List.mem_cons,Prod.mk.injEq,List.not_mem_nil,or_false] at hm
  rcases hm with ⟨rfl,rfl⟩|⟨rfl,rfl⟩|⟨rfl,rfl⟩|⟨rfl,rfl⟩
  ·exact⟨.agg #[.int .i64 0,.int .i64 0],by funext w;kernel_rfl,by exact Rels.vals (β:=[]) (ρ:=[]) [.int .i64 0,.int .i64 0],by simp[Value.cells,Value.oneCell']⟩
  ·exact⟨.agg #[.int .i64 0,.int .i64 0,.int .i64 0,.int .i64 0,.string ByteArray.empty,.int .i64 0,.int .i64 0,.bool false,.int .i64 0,.int .i64 0,.int .i64 0,.slice none 0 0,.slice none 0 0,.int .i64 0,.int .i64 0,.int .i64 0,.int .i64 0,.int .i64 0,.int .i64 0,.string ByteArray.empty,.slice none 0 0,.int .i64 0,.int .i64 0,.int .i64 0,.int .i64 0,.int .i64 0,.int .i64 0,.int .i64 0,.string ByteArray.empty,.slice none 0 0,.int .i64 0,.bool false,.int .i64 0,.int .i64 0,.int .i64 0,.int .i64 0,.string ByteArray.empty,.int .i64 0,.int .i64 0,.bool false,.int .i64 0,.int .i64 0,.int .i64 0,.slice none 0 0,.slice none 0 0,.int .i64 0,.int .i64 0,.int .i64 0,.int .i64 0,.int .i64 0,.int .i64 0,.string ByteArray.empty,.slice none 0 0,.int .i64 0,.int .i64 0,.int .i64 0,.int .i64 0,.int .i64 0,.int .i64 0,.int .i64 0,.string ByteArray.empty,.slice none 0 0,.int .i64 0,.bool false],by funext w;kernel_rfl,by exact Rels.vals (β:=[]) (ρ:=[]) [.int .i64 0,.int .i64 0,.int .i64 0,.int .i64 0,.string ByteArray.empty,.int .i64 0,.int .i64 0,.bool false,.int .i64 0,.int .i64 0,.int .i64 0,.slice none 0 0,.slice none 0 0,.int .i64 0,.int .i64 0,.int .i64 0,.int .i64 0,.int .i64 0,.int .i64 0,.string ByteArray.empty,.slice none 0 0,.int .i64 0,.int .i64 0,.int .i64 0,.int .i64 0,.int .i64 0,.int .i64 0,.int .i64 0,.string ByteArray.empty,.slice none 0 0,.int .i64 0,.bool false,.int .i64 0,.int .i64 0,.int .i64 0,.int .i64 0,.string ByteArray.empty,.int .i64 0,.int .i64 0,.bool false,.int .i64 0,.int .i64 0,.int .i64 0,.slice none 0 0,.slice none 0 0,.int .i64 0,.int .i64 0,.int .i64 0,.int .i64 0,.int .i64 0,.int .i64 0,.string ByteArray.empty,.slice none 0 0,.int .i64 0,.int .i64 0,.int .i64 0,.int .i64 0,.int .i64 0,.int .i64 0,.int .i64 0,.string ByteArray.empty,.slice none 0 0,.int .i64 0,.bool false],by simp[Value.cells,Value.oneCell']⟩
  ·exact⟨.agg #[.int .i64 0,.int .i64 0,.int .i64 0,.int .i64 0,.string ByteArray.empty,.int .i64 0,.int .i64 0,.int .i64 0,.int .i64 0,.string ByteArray.empty],by funext w;kernel_rfl,by exact Rels.vals (β:=[]) (ρ:=[]) [.int .i64 0,.int .i64 0,.int .i64 0,.int .i64 0,.string ByteArray.empty,.int .i64 0,.int .i64 0,.int .i64 0,.int .i64 0,.string ByteArray.empty],by simp[Value.cells,Value.oneCell']⟩
  ·exact⟨.slice none 0 0,by funext w;kernel_rfl,by exact Rels.vals (β:=[]) (ρ:=[]) [.slice none 0 0],by simp[Value.cells,Value.oneCell']⟩
 agg1:=by
  intro ty h
  have hm:=lk_mem h
  simp only[env1,List.mem_cons,Prod.mk.injEq,List.not_mem_nil,or_false] at hm
  rcases hm with ⟨rfl,hn⟩|⟨rfl,hn⟩|⟨rfl,hn⟩|⟨rfl,hn⟩
  ·cases hn
  ·cases hn
  ·cases hn
  ·exact fun a w=>by kernel_rfl
 aggN:=by
  intro ty n h
  have hm:=lk_mem h
  simp only[env1,List.mem_cons,Prod.mk.injEq,List.not_mem_nil,or_false] at hm
  rcases hm with ⟨rfl,hn⟩|⟨rfl,hn⟩|⟨rfl,hn⟩|⟨rfl,hn⟩
  ·(cases hn;exact load_agg (fun w=>by kernel_rfl) (by kernel_rfl))
  ·(cases hn;exact load_agg (fun w=>by kernel_rfl) (by kernel_rfl))
  ·(cases hn;exact load_agg (fun w=>by kernel_rfl) (by kernel_rfl))
  ·cases hn
 off:=by intro s f d h;exact absurd h (by simp[env1,lk])
 row:=by
  intro ty e size bytes h
  have hm:=lk_mem h
  simp only[env1,List.mem_cons,Prod.mk.injEq,List.not_mem_nil,or_false] at hm
  rcases hm with ⟨rfl,rfl,rfl,rfl⟩
  ·exact⟨by kernel_rfl,info_row (by kernel_rfl) rfl (by decide)⟩
 str:=by intro ty cs places h;exact absurd h (by simp[env1,lk])
 strs:=by intro ty u h;exact absurd h (by simp[env1,lk])
 ints:=by intro ty u h;exact absurd h (by simp[env1,lk])
 size:=by
  intro ty n h
  have hm:=lk_mem h
  simp only[env1,List.mem_cons,Prod.mk.injEq,List.not_mem_nil,or_false] at hm
  rcases hm with ⟨rfl,rfl⟩|⟨rfl,rfl⟩|⟨rfl,rfl⟩|⟨rfl,rfl⟩
  ·exact info_size (by kernel_rfl)
  ·exact info_size (by kernel_rfl)
  ·exact info_size (by kernel_rfl)
  ·exact info_size (by kernel_rfl)
 mixed:=by kernel_rfl
 row1:=by
  intro ty e size bytes h
  have hm:=lk_mem h
  simp only[env1,List.mem_cons,Prod.mk.injEq,List.not_mem_nil,or_false] at hm
  rcases hm with ⟨rfl,rfl,rfl,rfl⟩
  ·exact row_one (by kernel_rfl)
 meth:=by intro ty n g h;cases h
 arr:=by
  intro ty n size h
  have hm:=lk_mem h
  simp only[env1,List.mem_cons,Prod.mk.injEq,List.not_mem_nil,or_false] at hm
  rcases hm with ⟨rfl,rfl,rfl⟩|⟨rfl,rfl,rfl⟩|⟨rfl,rfl,rfl⟩
  ·exact array_at Tryz.underlying69 (by kernel_rfl)
  ·exact array_at Tryz.underlying83 (by kernel_rfl)
  ·exact array_at Tryz.underlying81 (by kernel_rfl)
def env:Sx.Env:=Sxk.app Sxt.env env1
theorem env_ok:Sx.Env.Ok env Tryz.prog:=app_ok Sxt.env_ok env1_ok
end Go.Proofs.YtmoopmcdolonjaaGreatDoor.Sxv
namespace Go.Proofs.YtmoopmcdolonjaaGreatDoor.Sxw
open Go.RowKit Sx Sxk
abbrev z1:List Value:=[.int .i64 0,.int .i64 0,.int .i64 0,.int .i64 0,.string ByteArray.empty,.int .i64 0,.int .i64 0,.bool false,.int .i64 0,.int .i64 0,.int .i64 0,.slice none 0 0,.slice none 0 0,.int .i64 0,.int .i64 0,.int .i64 0,.int .i64 0,.int .i64 0,.int .i64 0,.string ByteArray.empty,.slice none 0 0,.int .i64 0,.int .i64 0,.int .i64 0,.int .i64 0,.int .i64 0,.int .i64 0,.int .i64 0,.string ByteArray.empty,.slice none 0 0,.int .i64 0,.bool false]
abbrev z2:List Value:=z1++z1
def env:Sx.Env:={ Sxv.env with str:=(83,(z2.map .v,[(0,32),(32,32)]))::Sxv.env.str }
theorem env_ok:Sx.Env.Ok env Tryz.prog:=
 Sx.Env.Ok.strA Sxv.env_ok 83 (z2.map .v) [(0,32),(32,32)] z2 (Rels.vals z2) (built_array (n:=2) (s:=32) Tryz.underlying83 (fun w=>by kernel_rfl) (fun w=>by kernel_rfl) (fun i q h=>by
  match i,h with
  |0,h=>cases h;rfl
  |1,h=>cases h;rfl
  |i+2,h=>simp[nth] at h))
end Go.Proofs.YtmoopmcdolonjaaGreatDoor.Sxw
