/- Layer 16 (task): what the walk of TaskKeeps wants. -/
import Derived.Test.YtmoopmcdolonjaaGreatDoorKTkRR
import Derived.Test.YtmoopmcdolonjaaGreatDoorKLkTop
import Derived.Test.YtmoopmcdolonjaaGreatDoorKEnvL
import Derived.Test.YtmoopmcdolonjaaGreatDoorKSxMM
import Derived.Test.YtmoopmcdolonjaaGreatDoorChecked
set_option linter.all false
set_option maxHeartbeats 4000000
set_option maxRecDepth 100000
namespace Go.Proofs.YtmoopmcdolonjaaGreatDoor.task
open Go.RowKit Sx txn queue greedy shard pool Go.Proofs.YtmoopmcdolonjaaGreatDoor.look lock
section
variable {c : Cx}
def evC (c:Cx) (t:Tk):List Ev:=if t.ph=4∨((t.ph=5∨t.ph=6)∧(whoL c.o).2=true∧c.L.ch=true∧c.e=0) then c.L.ev else []
theorem free0 (hm:mayS c.s=true) (h:(whoL c.o).2=true) (h0:∀z∈c.s.l,z=0):c.ok:=by
 have hb:=Cx.bd hm h
 refine ⟨h,?_⟩
 unfold freeB
 have hh:hasB c.s.l c.κ=true:=has_iff.2 ⟨hb.2.1,hb.2.2.2⟩
 have h1:=at_get (l:=c.s.l) (i:=c.κ) ⟨hb.2.1,hb.2.2.2⟩
 rw [hh,h0 _ (List.mem_of_getElem? h1)]
 rfl
theorem Pth.ph {t:Tk} {s:Sg} (h:Pth c t s):0≤t.ph∧t.ph≤6:=by
 cases h <;> first | exact (show (0:Int)≤0∧(0:Int)≤6 by decide) | exact (show (0:Int)≤1∧(1:Int)≤6 by decide) | exact (show (0:Int)≤2∧(2:Int)≤6 by decide) | exact (show (0:Int)≤3∧(3:Int)≤6 by decide) | exact (show (0:Int)≤4∧(4:Int)≤6 by decide) | exact (show (0:Int)≤5∧(5:Int)≤6 by decide) | exact (show (0:Int)≤6∧(6:Int)≤6 by decide)
theorem Pth.CC {t:Tk} {s:Sg} (h:Pth c t s):s.C=c.s.C:=by cases h <;> rfl
structure Al (c:Cx) (t:Tk) (s:Sg) (r:Sr):Prop where
 able:ableV t c.who s=true
 up:t.ph+1≤r.t.ph
 ev:evC c r.t=evC c t++r.ev
theorem alone_next (hm:mayS c.s=true) (hw:1≤c.who) (h0:∀z∈c.s.l,z=0) {t:Tk} {s:Sg} (h:Pth c t s) (h6:t.ph≠6):Al c t s (stepR t c.who s):=by
 have no:∀{p σ:Int} {P:Pl} {r:Rq} {b:Bool},p≠4→p≠5→p≠6→evC c ⟨c.o,p,σ,P,r,b⟩=[]:=fun h4 h5 h6=>if_neg (fun k=>k.elim h4 (fun k=>k.1.elim h5 h6))
 have n4:∀{p σ:Int} {P:Pl} {r:Rq} {b:Bool},p=4→evC c ⟨c.o,p,σ,P,r,b⟩=c.L.ev:=fun h=>if_pos (.inl h)
 have yes:∀{p σ:Int} {P:Pl} {r:Rq} {b:Bool},p=5∨p=6→(whoL c.o).2=true→c.L.ch=true→c.e=0→evC c ⟨c.o,p,σ,P,r,b⟩=c.L.ev:=fun h a b d=>if_pos (.inr ⟨h,a,b,d⟩)
 have bad:∀{p σ:Int} {P:Pl} {r:Rq} {b:Bool},p≠4→¬ ((whoL c.o).2=true∧c.L.ch=true∧c.e=0)→evC c ⟨c.o,p,σ,P,r,b⟩=[]:=fun h k=>if_neg (fun q=>q.elim h (fun q=>k q.2))
 cases h with
 | a0=>
  cases hq:(whoL c.o).2 with
  | true=>rw [e0 hm hw hq];exact ⟨able_0 hw hm,by show (0:Int)+1≤1;decide,by rw [no (by decide) (by decide) (by decide)];rw [show evC c (newT c.o)=[] from no (p:=0) (by decide) (by decide) (by decide)];rfl⟩
  | false=>rw [e0d hm hw hq];exact ⟨able_0 hw hm,by show (0:Int)+1≤6;decide,by rw [bad (by decide) (fun k=>by rw [hq] at k;cases k.1)];rw [show evC c (newT c.o)=[] from no (p:=0) (by decide) (by decide) (by decide)];rfl⟩
 | d0 h=>exact absurd rfl h6
 | a1 h=>
  have hok:=free0 hm h h0
  rw [e1 hm hw hok]
  exact ⟨(able_1 hw hm).trans hok.2,by show (1:Int)+1≤2;decide,by rw [no (by decide) (by decide) (by decide),no (by decide) (by decide) (by decide)];rfl⟩
 | a2 h=>
  have ha:=able_h (o:=c.o) (P:=failL 0) (r:=R0) (b:=false) hw (Cx.may1 hm hw) (n:=2) (.inl rfl) h rfl rfl
  cases hc:c.L.ch with
  | true=>rw [e2 hm hw h hc];exact ⟨ha,by show (2:Int)+1≤3;decide,by rw [no (by decide) (by decide) (by decide),no (by decide) (by decide) (by decide)];rfl⟩
  | false=>rw [e2b hm hw h hc];exact ⟨ha,by show (2:Int)+1≤5;decide,by rw [bad (by decide) (fun k=>by rw [hc] at k;cases k.2.1),no (by decide) (by decide) (by decide)];rfl⟩
 | a3 h hc=>
  have ha:=able_h (o:=c.o) (P:=c.L) (r:=R0) (b:=false) hw (Cx.may1 hm hw) (n:=3) (.inr (.inl rfl)) h rfl rfl
  by_cases he:c.e=0
  ·rw [e3 hm hw h he];exact ⟨ha,by show (3:Int)+1≤4;decide,by rw [n4 rfl,no (by decide) (by decide) (by decide)];rfl⟩
  ·rw [e3c hm hw h he];exact ⟨ha,by show (3:Int)+1≤5;decide,by rw [bad (by decide) (fun k=>he k.2.2),no (by decide) (by decide) (by decide)];rfl⟩
 | a4 h hc he=>
  have ha:=able_h (o:=c.o) (P:=c.L) (r:=c.L.r) (b:=true) hw (Cx.may2 hm hw) (n:=4) (.inr (.inr (.inl rfl))) h rfl rfl
  rw [e4 hm hw h]
  exact ⟨ha,by show (4:Int)+1≤5;decide,by rw [n4 rfl,yes (.inl rfl) h.1 hc he];exact (List.append_nil _).symm⟩
 | b5 h hc=>
  rw [e5 hw h (Cx.may1 hm hw) rfl rfl]
  exact ⟨able_h hw (Cx.may1 hm hw) (.inr (.inr (.inr rfl))) h rfl rfl,by show (5:Int)+1≤6;decide,by rw [bad (by decide) (fun k=>by rw [hc] at k;cases k.2.1),bad (by decide) (fun k=>by rw [hc] at k;cases k.2.1)];rfl⟩
 | c5 h hc he=>
  rw [e5 hw h (Cx.may1 hm hw) rfl rfl]
  exact ⟨able_h hw (Cx.may1 hm hw) (.inr (.inr (.inr rfl))) h rfl rfl,by show (5:Int)+1≤6;decide,by rw [bad (by decide) (fun k=>he k.2.2),bad (by decide) (fun k=>he k.2.2)];rfl⟩
 | a5 h hc he=>
  rw [e5 hw h (Cx.may3 hm hw h.1 hc) rfl rfl]
  exact ⟨able_h hw (Cx.may3 hm hw h.1 hc) (.inr (.inr (.inr rfl))) h rfl rfl,by show (5:Int)+1≤6;decide,by rw [yes (.inr rfl) h.1 hc he,yes (.inl rfl) h.1 hc he];exact (List.append_nil _).symm⟩
 | b6 h hc=>exact absurd rfl h6
 | c6 h hc he=>exact absurd rfl h6
 | a6 h hc he=>exact absurd rfl h6
theorem alone_end (hm:mayS c.s=true) (hk:0≤c.o.k∧c.o.k≤3) (hs:c.s.t=slotsP (joinS c.s.S)) {t:Tk} {s:Sg} (h:Pth c t s) (h6:t.ph=6):t.pt=true∧doP c.s.C (joinS c.s.S) c.o=(joinS s.S,t.r,evC c t)∧s.t=slotsP (joinS s.S)∧s.l=c.s.l:=by
 have bad:∀{p σ:Int} {P:Pl} {r:Rq} {b:Bool},p≠4→¬ ((whoL c.o).2=true∧c.L.ch=true∧c.e=0)→evC c ⟨c.o,p,σ,P,r,b⟩=[]:=fun h k=>if_neg (fun q=>q.elim h (fun q=>k q.2))
 have yes:∀{p σ:Int} {P:Pl} {r:Rq} {b:Bool},p=5∨p=6→(whoL c.o).2=true→c.L.ch=true→c.e=0→evC c ⟨c.o,p,σ,P,r,b⟩=c.L.ev:=fun h a b d=>if_pos (.inr ⟨h,a,b,d⟩)
 have hp:=join_pck hm (by have:=(may_iff.1 hm).2.2.2.2.2;omega)
 cases h with
 | a0=>cases h6
 | d0 h=>exact ⟨rfl,by rw [bad (by decide) (fun k=>by rw [h] at k;cases k.1),pool_bad hp hk h];rfl,hs,rfl⟩
 | a1=>cases h6
 | a2=>cases h6
 | a3=>cases h6
 | a4=>cases h6
 | b5=>cases h6
 | c5=>cases h6
 | a5=>cases h6
 | b6 h hc=>exact ⟨rfl,by rw [bad (by decide) (fun k=>by rw [hc] at k;cases k.2.1),(pool_end hm hk hs h.1).1 hc],hs,rfl⟩
 | c6 h hc he=>exact ⟨rfl,by rw [bad (by decide) (fun k=>he k.2.2),(pool_end hm hk hs h.1).2.1 hc he],hs,rfl⟩
 | a6 h hc he=>
  have e:=(pool_end hm hk hs h.1).2.2 hc he
  exact ⟨rfl,by rw [yes (.inr rfl) h.1 hc he,e.1];rfl,e.2,rfl⟩
end
end Go.Proofs.YtmoopmcdolonjaaGreatDoor.task
namespace Go.Proofs.YtmoopmcdolonjaaGreatDoor.task
open Go.RowKit Sx txn queue greedy shard pool Go.Proofs.YtmoopmcdolonjaaGreatDoor.look lock
section
variable {W : World} {G : Option Nat} {Q : Ending → World → Prop} {ds : List Deferred}
theorem meetB {f:FuncId} {args:List Sx.T} {l:List Value} {m:M} {k:Value→List Fact→Tree} (hv:valsOf args=some l) (hc:callable Tryz.prog f=true)
  (hC:∀β ρ w,Mem W G m β ρ w→Calls Tryz.prog f (List.toArray l) w fun e w'=>∃b:Bool,e=.returned (.bool b)∧Below w.heap.size w w')
  (h:∀b:Bool,(k (.bool b) []).wpD Tryz.prog W G Q ds):(Tree.call f args m k).wpD Tryz.prog W G Q ds:=
 meetLy (ι:=Bool) (ok:=fun _=>True) (v:=fun b=>.bool b) (fs:=fun _=>[]) [] (by simp) hv hc (fun β ρ w hM=>(hC β ρ w hM).mono fun e w' ⟨b,h1,h2⟩=>⟨b,trivial,h1,h2,by simp⟩) (fun b _ _=>h b)
end
theorem rsame05G (x y:Ac) (w:World) (hx:x.fit) (hy:y.fit) (hr:At w (pt x.a x.n) (cellsL x.l)) (hr2:At w (pt y.a y.n) (cellsL y.l)) :
  Calls Tryz.prog 46 (List.toArray [acc x.s x.b x.a x.n x.c,acc y.s y.b y.a y.n y.c]) w fun e w'=>∃b:Bool,e=.returned (.bool b)∧Below w.heap.size w w':=by
 have TX:=fun w hr hr2=>rtxsG x.l y.l x.a x.n x.c y.a y.n y.c w hx.1 hx.2.1 hr hy.1 hy.2.1 hr2
 generalize eqL x.l y.l=eb at *
 refine calls_of_exec Sxt.env_ok.keeps Tryz.func46 rfl [] (schedQ_ok _ _ (by kernel_rfl)) [acF x,acF y] (fun φ hφ g hg=>by simp only [List.mem_cons,List.not_mem_nil,or_false] at hφ;rcases hφ with rfl | rfl <;> first | exact hr g hg | exact hr2 g hg) ?_
 conv=>arg 5;whnf
 refine wp_g1 (fun h1=>?_) (fun h1=>?_)
 rotate_left
 ·skip
  conv=>arg 5;whnf
  exact wp_back fun β ρ w' hM'=>⟨_,rfl,hM'.below⟩
 conv=>arg 5;whnf
 refine wp_g1 (fun h1=>?_) (fun h1=>?_)
 rotate_left
 ·skip
  conv=>arg 5;whnf
  exact wp_back fun β ρ w' hM'=>⟨_,rfl,hM'.below⟩
 conv=>arg 5;whnf
 refine meetc (f:=45) (v:=.bool eb) rfl (by kernel_rfl) (fun β ρ w' hM'=>TX w' (hM'.at_ (a:=pt x.a x.n) (xs:=cellsL x.l) (.head _)) (hM'.at_ (a:=pt y.a y.n) (xs:=cellsL y.l) (.tail _ (.head _)))) ?_
 conv=>arg 5;whnf
 exact wp_back fun β ρ w' hM'=>⟨_,rfl,hM'.below⟩
theorem raccG (L1 L2:List Ac) (a:Option Addr) (n c:Nat) (a2:Option Addr) (n2 c2:Nat) (w:World) (h1:Acs w a n c L1) (h2:Acs w a2 n2 c2 L2) :
  Calls Tryz.prog 20 (List.toArray [.slice a n c,.slice a2 n2 c2]) w fun e w'=>∃b:Bool,e=.returned (.bool b)∧Below w.heap.size w w':=by
 have hs:=h1.1
 have ht:=h2.1
 have hn:=h1.2.1
 have hn2:=h2.2.1
 have hn63:=hs.le
 refine calls_of_exec Sxt.env_ok.keeps Tryz.func20 rfl [(6,(line [0,1,2,3,4,5,6,7,8,9],[]))] (schedQ_ok _ _ (by kernel_rfl)) (acsF a n L1++acsF a2 n2 L2) (fun φ hφ g hg=>(List.mem_append.1 hφ).elim (fun h=>h1.facts φ h g hg) fun h=>h2.facts φ h g hg) ?_
 conv=>arg 5;whnf
 refine wp_br (fun h3=>?_) (fun h3=>?_)
 ·skip
  conv=>arg 5;whnf
  exact wp_back fun β ρ w' hM'=>⟨_,rfl,hM'.below⟩
 have hnn:n=n2:=by have h4:(!((n:Int)==(n2:Int)))=false:=h3;simp at h4;omega
 conv=>arg 5;whnf
 refine loop_rule Sxt.env_ok.keeps [(6,(line [0,1,2,3,4,5,6,7,8,9],[]))] (schedQ_ok _ _ (by kernel_rfl)) (fun k:Nat=>k≤n) (fun k=>(⟨[],[],acsF a n L1++acsF a2 n2 L2⟩,[.v (.slice a n c),.v (.slice a2 n2 c2),.any,.any,.any,.v (.int .i64 k),.any,.any,.any,.any,.any,.any,.any,.any,.any,.any,.any,.any,.any,.any,.any,.any,.any,.any,.any,.any,.any])) (fun k=>n - k) 0 (Nat.zero_le _) ⟨by repeat' first | exact trivial | refine ⟨.inl rfl,?_⟩ | refine ⟨.inr rfl,?_⟩,⟨by repeat' first | exact trivial | refine ⟨.inl rfl,?_⟩ | refine ⟨.inr rfl,?_⟩,by repeat' first | exact trivial | refine ⟨.inl rfl,?_⟩ | refine ⟨.inr rfl,?_⟩,fun _ h=>h⟩,rfl⟩ ?_
 intro k hk
 conv=>arg 5;whnf
 refine wp_br (fun h5=>?_) (fun h5=>?_)
 ·have hlt:k<n:=by have h6:=of_decide_eq_true (show decide ((k:Int)<(n:Int))=true from h5);omega
  obtain ⟨x,hx⟩:∃x,L1[k]?=some x:=⟨_,List.getElem?_eq_getElem (by omega)⟩
  obtain ⟨y,hy⟩:∃y,L2[k]?=some y:=⟨_,List.getElem?_eq_getElem (by omega)⟩
  have hxm:=List.mem_of_getElem? hx
  have hym:=List.mem_of_getElem? hy
  conv=>arg 5;whnf
  refine wp_must ⟨by omega,by show (k:Int)<(n:Int);omega,hs.some hlt⟩ ?_
  conv=>arg 5;whnf
  refine readG Sxt.env_ok.keeps (vs:=x.cs) (sz:=3) (k:=k) rfl rfl (show rowF (pt a n) (cellsA L1)∈acsF a n L1++acsF a2 n2 L2 from .head _) hlt (hs.some hlt) (cellsA_at hx) rfl ?_
  conv=>arg 5;whnf
  refine wp_must ⟨by omega,by show (k:Int)<(n2:Int);omega,ht.some (show k<n2 by omega)⟩ ?_
  conv=>arg 5;whnf
  refine readG Sxt.env_ok.keeps (vs:=y.cs) (sz:=3) (k:=k) rfl rfl (show rowF (pt a2 n2) (cellsA L2)∈acsF a n L1++acsF a2 n2 L2 from List.mem_append_right _ (.head _)) (show k<n2 by omega) (ht.some (show k<n2 by omega)) (cellsA_at hy) rfl ?_
  conv=>arg 5;whnf
  refine meetB (f:=46) rfl (by kernel_rfl) (fun β ρ w' hM'=>rsame05G x y w' (h1.2.2.2 x hxm).1 (h2.2.2.2 y hym).1 (hM'.at_ (a:=pt x.a x.n) (xs:=cellsL x.l) (show acF x∈acsF a n L1++acsF a2 n2 L2 from List.mem_append_left _ (.tail _ (List.mem_map.2 ⟨x,hxm,rfl⟩)))) (hM'.at_ (a:=pt y.a y.n) (xs:=cellsL y.l) (show acF y∈acsF a n L1++acsF a2 n2 L2 from List.mem_append_right _ (.tail _ (List.mem_map.2 ⟨y,hym,rfl⟩))))) (fun b=>?_)
  cases b with
  | false=>
   conv=>arg 5;whnf
   exact wp_back fun β ρ w' hM'=>⟨_,rfl,hM'.below⟩
  | true=>
   conv=>arg 5;whnf
   refine wp_must ⟨by show -9223372036854775808≤(k:Int)+1;omega,by show (k:Int)+1≤9223372036854775807;omega⟩ ?_
   conv=>arg 5;whnf
   refine wp_end ⟨k+1,hlt,⟨by repeat' first | exact trivial | refine ⟨.inl rfl,?_⟩ | refine ⟨.inr rfl,?_⟩,⟨by repeat' first | exact trivial | refine ⟨.inl rfl,?_⟩ | refine ⟨.inr rfl,?_⟩,by repeat' first | exact trivial | refine ⟨.inl rfl,?_⟩ | refine ⟨.inr rfl,?_⟩,fun _ h=>h⟩,rfl⟩,by show n - (k+1)<n - k;omega⟩
 ·skip
  conv=>arg 5;whnf
  exact wp_back fun β ρ w' hM'=>⟨_,rfl,hM'.below⟩
theorem rsame11G (L1 L2:List Ac) (v v2:Int) (a:Option Addr) (n c:Nat) (a2:Option Addr) (n2 c2:Nat) (w:World) (h1:Acs w a n c L1) (h2:Acs w a2 n2 c2 L2) :
  Calls Tryz.prog 24 (List.toArray [shV a n c v,shV a2 n2 c2 v2]) w fun e w'=>∃b:Bool,e=.returned (.bool b)∧Below w.heap.size w w':=by
 refine calls_of_exec Sxt.env_ok.keeps Tryz.func24 rfl [] (schedQ_ok _ _ (by kernel_rfl)) (acsF a n L1++acsF a2 n2 L2) (fun φ hφ g hg=>(List.mem_append.1 hφ).elim (fun h=>h1.facts φ h g hg) fun h=>h2.facts φ h g hg) ?_
 conv=>arg 5;whnf
 refine wp_g1 (fun h3=>?_) (fun h3=>?_)
 rotate_left
 ·skip
  conv=>arg 5;whnf
  exact wp_back fun β ρ w' hM'=>⟨_,rfl,hM'.below⟩
 conv=>arg 5;whnf
 refine meetB (f:=20) rfl (by kernel_rfl) (fun β ρ w' hM'=>raccG L1 L2 a n c a2 n2 c2 w' (Mem.acs h1 hM' fun φ hφ=>(show φ∈acsF a n L1++acsF a2 n2 L2 from List.mem_append_left _ hφ)) (Mem.acs h2 hM' fun φ hφ=>(show φ∈acsF a n L1++acsF a2 n2 L2 from List.mem_append_right _ hφ))) (fun b=>?_)
 conv=>arg 5;whnf
 exact wp_back fun β ρ w' hM'=>⟨_,rfl,hM'.below⟩
end Go.Proofs.YtmoopmcdolonjaaGreatDoor.task
namespace Go.Proofs.YtmoopmcdolonjaaGreatDoor.look
open Go.RowKit Sx txn queue greedy shard pool
theorem told (p:Pl) (x:Pn) (w:World):Calls Tryz.prog 49 (List.toArray [planV p x]) w fun e w'=>e=.returned (planV p x)∧Below w.heap.size w w':=by
 refine calls_of_exec Sxk.env_ok.keeps.soon_ Tryz.func49 rfl [] (schedQ_ok _ _ (by kernel_rfl)) [] (by simp) ?_
 conv=>arg 5;whnf
 exact wp_back fun β ρ w' hM'=>⟨rfl,hM'.below⟩
theorem rsameP (p:Pl) (x y:Pn) (w:World) (hx:x.ok p) (hy:y.ok p) (h1:∀φ∈x.fs p,∀g,φ.g=some g→∃o,w.heap[g]?=some o∧φ.holds o) (h2:∀φ∈y.fs p,∀g,φ.g=some g→∃o,w.heap[g]?=some o∧φ.holds o) :
  Calls Tryz.prog 48 (List.toArray [planV p x,planV p y]) w fun e w'=>e=.returned (.bool true)∧Below w.heap.size w w':=by
 refine calls_of_exec Sxk.env_ok.keeps.soon_ Tryz.func48 rfl [] (schedQ_ok _ _ (by kernel_rfl)) (x.fs p++y.fs p) (fun φ hφ g hg=>(List.mem_append.1 hφ).elim (fun h=>h1 φ h g hg) (fun h=>h2 φ h g hg)) ?_
 conv=>arg 5;whnf
 refine wp_prim (.bool true) (fun w=>by cases p.ch <;> rfl) ?_
 conv=>arg 5;whnf
 refine wp_g1 (fun _=>?_) (fun h=>by simp at h)
 conv=>arg 5;whnf
 refine meetc (f:=46) (v:=.bool true) rfl (by kernel_rfl) (fun β ρ w' hM'=>rsame p.s p.b p.l x.a p.l.length x.c y.a y.c w' hx.1 rfl (hM'.at_ (show rowF (pt x.a p.l.length) (cellsL p.l)∈x.fs p++y.fs p from List.mem_append_left _ (.head _))) hy.1 (hM'.at_ (show rowF (pt y.a p.l.length) (cellsL p.l)∈x.fs p++y.fs p from List.mem_append_right _ (.head _)))) ?_
 conv=>arg 5;whnf
 refine meetc (f:=19) (v:=.bool true) rfl (by kernel_rfl) (fun β ρ w' hM'=>revents p.ev x.ea x.ec y.ea y.ec w' hx.2.1 (hM'.at_ (show rowF (pt x.ea p.ev.length) (cellsE p.ev)∈x.fs p++y.fs p from List.mem_append_left _ (.tail _ (.head _)))) hy.2.1 (hM'.at_ (show rowF (pt y.ea p.ev.length) (cellsE p.ev)∈x.fs p++y.fs p from List.mem_append_right _ (.tail _ (.head _))))) ?_
 conv=>arg 5;whnf
 refine meetc (f:=18) (v:=.bool true) rfl (by kernel_rfl) (fun β ρ w' hM'=>rsameR p.r x.ta x.tc y.ta y.tc w' hx.2.2 (hM'.at_ (show rowF (pt x.ta p.r.l.length) (cellsL p.r.l)∈x.fs p++y.fs p from List.mem_append_left _ (.tail _ (.tail _ (.head _))))) hy.2.2 (hM'.at_ (show rowF (pt y.ta p.r.l.length) (cellsL p.r.l)∈x.fs p++y.fs p from List.mem_append_right _ (.tail _ (.tail _ (.head _)))))) ?_
 conv=>arg 5;whnf
 exact wp_back fun β ρ w' hM'=>⟨rfl,hM'.below⟩
end Go.Proofs.YtmoopmcdolonjaaGreatDoor.look
namespace Go.Proofs.YtmoopmcdolonjaaGreatDoor.task
open Go.RowKit Sx txn queue greedy shard pool Go.Proofs.YtmoopmcdolonjaaGreatDoor.look lock
theorem toldT (t:Tk) (y:Tn) (w:World):Calls Tryz.prog 23 (List.toArray [tkV t y]) w fun e w'=>e=.returned (tkV t y)∧Below w.heap.size w w':=by
 refine calls_of_exec Sxt.env_ok.keeps Tryz.func23 rfl [(1,(line [0,1,2,3,4,5,6,7,9,10,11,12,8,13,14],[1]))] (schedQ_ok _ _ (by kernel_rfl)) [] (by simp) ?_
 conv=>arg 5;whnf
 refine meetc (f:=49) (v:=planV t.P y.x) rfl (by kernel_rfl) (fun β ρ w' hM'=>Go.Proofs.YtmoopmcdolonjaaGreatDoor.look.told t.P y.x w') ?_
 conv=>arg 5;whnf
 exact wp_back fun β ρ w' hM'=>⟨rfl,hM'.below⟩
theorem op_eq (x y:Operand) (O:Oq) (w:World):(do eqGuard .eql 23 x y O.val O.val;pure (Next.value (← binOp .eql 23 O.val O.val)):Sem Next).run Tryz.prog w=.ok (.value (.bool true)) w:=by
 simp [Oq.val,eqGuard,go_sem]
theorem rsameT (t:Tk) (y z:Tn) (w:World) (hy:y.ok t) (hz:z.ok t) (h1:∀φ∈y.fs t,∀g,φ.g=some g→∃o,w.heap[g]?=some o∧φ.holds o) (h2:∀φ∈z.fs t,∀g,φ.g=some g→∃o,w.heap[g]?=some o∧φ.holds o) :
  Calls Tryz.prog 22 (List.toArray [tkV t y,tkV t z]) w fun e w'=>e=.returned (.bool true)∧Below w.heap.size w w':=by
 refine calls_of_exec Sxt.env_ok.keeps Tryz.func22 rfl [] (schedQ_ok _ _ (by kernel_rfl)) (y.fs t++z.fs t) (fun φ hφ g hg=>(List.mem_append.1 hφ).elim (fun h=>h1 φ h g hg) (fun h=>h2 φ h g hg)) ?_
 conv=>arg 5;whnf
 refine wp_prim (.bool true) (fun w=>op_eq _ _ t.O w) ?_
 conv=>arg 5;whnf
 refine wp_g1 (fun _=>?_) (fun h=>by simp at h)
 conv=>arg 5;whnf
 refine wp_g1 (fun _=>?_) (fun h=>by simp at h)
 conv=>arg 5;whnf
 refine wp_prim (.bool true) (fun w=>by cases t.pt <;> rfl) ?_
 conv=>arg 5;whnf
 refine meetc (f:=48) (v:=.bool true) rfl (by kernel_rfl) (fun β ρ w' hM'=>Go.Proofs.YtmoopmcdolonjaaGreatDoor.look.rsameP t.P y.x z.x w' hy.1 hz.1 (fun φ hφ g hg=>(hM'.fact φ (show φ∈y.fs t++z.fs t from List.mem_append_left _ (List.mem_append_left _ hφ)) g hg).2) (fun φ hφ g hg=>(hM'.fact φ (show φ∈y.fs t++z.fs t from List.mem_append_right _ (List.mem_append_left _ hφ)) g hg).2)) ?_
 conv=>arg 5;whnf
 refine meetc (f:=18) (v:=.bool true) rfl (by kernel_rfl) (fun β ρ w' hM'=>rsameR t.r y.a y.c z.a z.c w' hy.2 (hM'.at_ (show rowF (pt y.a t.r.l.length) (cellsL t.r.l)∈y.fs t++z.fs t from List.mem_append_left _ (List.mem_append_right _ (.head _)))) hz.2 (hM'.at_ (show rowF (pt z.a t.r.l.length) (cellsL t.r.l)∈y.fs t++z.fs t from List.mem_append_right _ (List.mem_append_right _ (.head _))))) ?_
 conv=>arg 5;whnf
 exact wp_back fun β ρ w' hM'=>⟨rfl,hM'.below⟩
end Go.Proofs.YtmoopmcdolonjaaGreatDoor.task
namespace Go.Proofs.YtmoopmcdolonjaaGreatDoor.task
open Go.RowKit Sx txn queue greedy shard pool Go.Proofs.YtmoopmcdolonjaaGreatDoor.look lock
theorem lkCase {l l':List Int} {κ k:Nat} {who a b:Int} (h:l'=l∨(l'=l.set κ who∧l[κ]?=some 0)∨(l'=l.set κ 0∧l[κ]?=some who)) (ha:l[k]?=some a) (hb:l'[k]?=some b):b=a∨(a=0∧b=who)∨(a=who∧b=0):=by
 have key:∀v c:Int,l'=l.set κ v→l[κ]?=some c→b=a∨(a=c∧b=v):=fun v c e hc=>by
  rw [e,List.getElem?_set] at hb
  by_cases hk:κ=k
  ·subst hk
   rw [if_pos rfl,if_pos (List.getElem?_eq_some_iff.1 ha).1] at hb
   rw [hc] at ha
   exact .inr ⟨(Option.some.inj ha).symm,(Option.some.inj hb).symm⟩
  ·rw [if_neg hk,ha] at hb
   exact .inl (Option.some.inj hb).symm
 rcases h with e | ⟨e,hc⟩ | ⟨e,hc⟩
 ·rw [e,ha] at hb
  exact .inl (Option.some.inj hb).symm
 ·exact (key _ _ e hc).elim .inl (fun h=>.inr (.inl h))
 ·exact (key _ _ e hc).elim .inl (fun h=>.inr (.inr h))
theorem shCase {α:Type} {S S':List α} {l:List Int} {κ k:Nat} {who:Int} {q r:α} (h:S'=S∨(l[κ]?=some who∧∃z,S'=S.set κ z)) (hq:S[k]?=some q) (hr:S'[k]?=some r):q=r∨l[k]?=some who:=by
 rcases h with e | ⟨hl,z,e⟩
 ·rw [e,hq] at hr
  exact .inl (Option.some.inj hr)
 ·rw [e,List.getElem?_set] at hr
  by_cases hk:κ=k
  ·subst hk
   exact .inr hl
  ·rw [if_neg hk,hq] at hr
   exact .inl (Option.some.inj hr)
theorem rsameT2 {t t2:Tk} (e:t=t2) (y z:Tn) (w:World) (hy:y.ok t) (hz:z.ok t2) (h1:∀φ∈y.fs t,∀g,φ.g=some g→∃o,w.heap[g]?=some o∧φ.holds o) (h2:∀φ∈z.fs t2,∀g,φ.g=some g→∃o,w.heap[g]?=some o∧φ.holds o) :
  Calls Tryz.prog 22 (List.toArray [tkV t y,tkV t2 z]) w fun e w'=>e=.returned (.bool true)∧Below w.heap.size w w':=by
 subst e
 exact rsameT t y z w hy hz h1 h2
theorem rsameK (q r:Shd) (w:World) (h1:Acs w q.a q.n q.c q.L) (h2:Acs w r.a r.n r.c r.L) :
  Calls Tryz.prog 24 (List.toArray [shV q.a q.n q.c q.v,shV r.a r.n r.c r.v]) w fun e w'=>∃b:Bool,(shdP q=shdP r→b=true)∧e=.returned (.bool b)∧Below w.heap.size w w':=by
 by_cases h:shdP q=shdP r
 ·have e1:q.L.map acP=r.L.map acP:=congrArg Prod.fst h
  have e2:q.v=r.v:=congrArg Prod.snd h
  rw [e2]
  exact (shard.rsame11 q.L r.L e1 r.v q.a q.n q.c r.a r.n r.c w h1 h2).mono fun e w' ⟨h3,h4⟩=>⟨true,fun _=>rfl,h3,h4⟩
 ·exact (rsame11G q.L r.L q.v r.v q.a q.n q.c r.a r.n r.c w h1 h2).mono fun e w' ⟨b,h3,h4⟩=>⟨b,fun k=>absurd k h,h3,h4⟩
section
variable {W : World} {G : Option Nat} {Q : Ending → World → Prop} {ds : List Deferred}
theorem meetBp {ok:Bool→Prop} {f:FuncId} {args:List Sx.T} {l:List Value} {m:M} {k:Value→List Fact→Tree} (hv:valsOf args=some l) (hc:callable Tryz.prog f=true)
  (hC:∀β ρ w,Mem W G m β ρ w→Calls Tryz.prog f (List.toArray l) w fun e w'=>∃b:Bool,ok b∧e=.returned (.bool b)∧Below w.heap.size w w')
  (h:∀b:Bool,ok b→(k (.bool b) []).wpD Tryz.prog W G Q ds):(Tree.call f args m k).wpD Tryz.prog W G Q ds:=
 meetLy (ι:=Bool) (ok:=ok) (v:=fun b=>.bool b) (fs:=fun _=>[]) [] (by simp) hv hc (fun β ρ w hM=>(hC β ρ w hM).mono fun e w' ⟨b,h0,h1,h2⟩=>⟨b,h0,h1,h2,by simp⟩) (fun b hb _=>h b hb)
end
end Go.Proofs.YtmoopmcdolonjaaGreatDoor.task
namespace Go.Proofs.YtmoopmcdolonjaaGreatDoor.Sxv
open Go.RowKit Sx Sxk
def env1:Sx.Env:={
 zero:=[(69,[.v (.int .i64 0),.v (.int .i64 0)]),(83,[.v (.int .i64 0),.v (.int .i64 0),.v (.int .i64 0),.v (.int .i64 0),.v (.string ByteArray.empty),.v (.int .i64 0),.v (.int .i64 0),.v (.bool false),.v (.int .i64 0),.v (.int .i64 0),.v (.int .i64 0),.v (.slice none 0 0),.v (.slice none 0 0),.v (.int .i64 0),.v (.int .i64 0),.v (.int .i64 0),.v (.int .i64 0),.v (.int .i64 0),.v (.int .i64 0),.v (.string ByteArray.empty),.v (.slice none 0 0),.v (.int .i64 0),.v (.int .i64 0),.v (.int .i64 0),.v (.int .i64 0),.v (.int .i64 0),.v (.int .i64 0),.v (.int .i64 0),.v (.string ByteArray.empty),.v (.slice none 0 0),.v (.int .i64 0),.v (.bool false),.v (.int .i64 0),.v (.int .i64 0),.v (.int .i64 0),.v (.int .i64 0),.v (.string ByteArray.empty),.v (.int .i64 0),.v (.int .i64 0),.v (.bool false),.v (.int .i64 0),.v (.int .i64 0),.v (.int .i64 0),.v (.slice none 0 0),.v (.slice none 0 0),.v (.int .i64 0),.v (.int .i64 0),.v (.int .i64 0),.v (.int .i64 0),.v (.int .i64 0),.v (.int .i64 0),.v (.string ByteArray.empty),.v (.slice none 0 0),.v (.int .i64 0),.v (.int .i64 0),.v (.int .i64 0),.v (.int .i64 0),.v (.int .i64 0),.v (.int .i64 0),.v (.int .i64 0),.v (.string ByteArray.empty),.v (.slice none 0 0),.v (.int .i64 0),.v (.bool false)]),(81,[.v (.int .i64 0),.v (.int .i64 0),.v (.int .i64 0),.v (.int .i64 0),.v (.string ByteArray.empty),.v (.int .i64 0),.v (.int .i64 0),.v (.int .i64 0),.v (.int .i64 0),.v (.string ByteArray.empty)]),(82,[.v (.slice none 0 0)])]
 agg:=[(69,some 2),(83,some 64),(81,some 10),(82,none)]
 off:=[]
 row:=[(82,(4,1,1))]
 str:=[]
 strs:=[]
 ints:=[]
 how:=[]
 meth:=[]
 opens:=[]
 arr:=[(69,(2,1)),(83,(2,32)),(81,(2,5))] }
theorem env1_ok:Sx.Env.Ok env1 Tryz.prog where
 zero:=by
  intro e cs h
  have hm:=lk_mem h
  simp only [env1,List.mem_cons,Prod.mk.injEq,List.not_mem_nil,or_false] at hm
  rcases hm with ⟨rfl,rfl⟩ | ⟨rfl,rfl⟩ | ⟨rfl,rfl⟩ | ⟨rfl,rfl⟩
  ·exact ⟨.agg #[.int .i64 0,.int .i64 0],by funext w;kernel_rfl,by exact Rels.vals (β:=[]) (ρ:=[]) [.int .i64 0,.int .i64 0],by simp [Value.cells,Value.oneCell']⟩
  ·exact ⟨.agg #[.int .i64 0,.int .i64 0,.int .i64 0,.int .i64 0,.string ByteArray.empty,.int .i64 0,.int .i64 0,.bool false,.int .i64 0,.int .i64 0,.int .i64 0,.slice none 0 0,.slice none 0 0,.int .i64 0,.int .i64 0,.int .i64 0,.int .i64 0,.int .i64 0,.int .i64 0,.string ByteArray.empty,.slice none 0 0,.int .i64 0,.int .i64 0,.int .i64 0,.int .i64 0,.int .i64 0,.int .i64 0,.int .i64 0,.string ByteArray.empty,.slice none 0 0,.int .i64 0,.bool false,.int .i64 0,.int .i64 0,.int .i64 0,.int .i64 0,.string ByteArray.empty,.int .i64 0,.int .i64 0,.bool false,.int .i64 0,.int .i64 0,.int .i64 0,.slice none 0 0,.slice none 0 0,.int .i64 0,.int .i64 0,.int .i64 0,.int .i64 0,.int .i64 0,.int .i64 0,.string ByteArray.empty,.slice none 0 0,.int .i64 0,.int .i64 0,.int .i64 0,.int .i64 0,.int .i64 0,.int .i64 0,.int .i64 0,.string ByteArray.empty,.slice none 0 0,.int .i64 0,.bool false],by funext w;kernel_rfl,by exact Rels.vals (β:=[]) (ρ:=[]) [.int .i64 0,.int .i64 0,.int .i64 0,.int .i64 0,.string ByteArray.empty,.int .i64 0,.int .i64 0,.bool false,.int .i64 0,.int .i64 0,.int .i64 0,.slice none 0 0,.slice none 0 0,.int .i64 0,.int .i64 0,.int .i64 0,.int .i64 0,.int .i64 0,.int .i64 0,.string ByteArray.empty,.slice none 0 0,.int .i64 0,.int .i64 0,.int .i64 0,.int .i64 0,.int .i64 0,.int .i64 0,.int .i64 0,.string ByteArray.empty,.slice none 0 0,.int .i64 0,.bool false,.int .i64 0,.int .i64 0,.int .i64 0,.int .i64 0,.string ByteArray.empty,.int .i64 0,.int .i64 0,.bool false,.int .i64 0,.int .i64 0,.int .i64 0,.slice none 0 0,.slice none 0 0,.int .i64 0,.int .i64 0,.int .i64 0,.int .i64 0,.int .i64 0,.int .i64 0,.string ByteArray.empty,.slice none 0 0,.int .i64 0,.int .i64 0,.int .i64 0,.int .i64 0,.int .i64 0,.int .i64 0,.int .i64 0,.string ByteArray.empty,.slice none 0 0,.int .i64 0,.bool false],by simp [Value.cells,Value.oneCell']⟩
  ·exact ⟨.agg #[.int .i64 0,.int .i64 0,.int .i64 0,.int .i64 0,.string ByteArray.empty,.int .i64 0,.int .i64 0,.int .i64 0,.int .i64 0,.string ByteArray.empty],by funext w;kernel_rfl,by exact Rels.vals (β:=[]) (ρ:=[]) [.int .i64 0,.int .i64 0,.int .i64 0,.int .i64 0,.string ByteArray.empty,.int .i64 0,.int .i64 0,.int .i64 0,.int .i64 0,.string ByteArray.empty],by simp [Value.cells,Value.oneCell']⟩
  ·exact ⟨.slice none 0 0,by funext w;kernel_rfl,by exact Rels.vals (β:=[]) (ρ:=[]) [.slice none 0 0],by simp [Value.cells,Value.oneCell']⟩
 agg1:=by
  intro ty h
  have hm:=lk_mem h
  simp only [env1,List.mem_cons,Prod.mk.injEq,List.not_mem_nil,or_false] at hm
  rcases hm with ⟨rfl,hn⟩ | ⟨rfl,hn⟩ | ⟨rfl,hn⟩ | ⟨rfl,hn⟩
  ·cases hn
  ·cases hn
  ·cases hn
  ·exact fun a w=>by kernel_rfl
 aggN:=by
  intro ty n h
  have hm:=lk_mem h
  simp only [env1,List.mem_cons,Prod.mk.injEq,List.not_mem_nil,or_false] at hm
  rcases hm with ⟨rfl,hn⟩ | ⟨rfl,hn⟩ | ⟨rfl,hn⟩ | ⟨rfl,hn⟩
  ·(cases hn;exact load_agg (fun w=>by kernel_rfl) (by kernel_rfl))
  ·(cases hn;exact load_agg (fun w=>by kernel_rfl) (by kernel_rfl))
  ·(cases hn;exact load_agg (fun w=>by kernel_rfl) (by kernel_rfl))
  ·cases hn
 off:=by intro s f d h;exact absurd h (by simp [env1,lk])
 row:=by
  intro ty e size bytes h
  have hm:=lk_mem h
  simp only [env1,List.mem_cons,Prod.mk.injEq,List.not_mem_nil,or_false] at hm
  rcases hm with ⟨rfl,rfl,rfl,rfl⟩
  ·exact ⟨by kernel_rfl,info_row (by kernel_rfl) rfl (by decide)⟩
 str:=by intro ty cs places h;exact absurd h (by simp [env1,lk])
 strs:=by intro ty u h;exact absurd h (by simp [env1,lk])
 ints:=by intro ty u h;exact absurd h (by simp [env1,lk])
 size:=by
  intro ty n h
  have hm:=lk_mem h
  simp only [env1,List.mem_cons,Prod.mk.injEq,List.not_mem_nil,or_false] at hm
  rcases hm with ⟨rfl,rfl⟩ | ⟨rfl,rfl⟩ | ⟨rfl,rfl⟩ | ⟨rfl,rfl⟩
  ·exact info_size (by kernel_rfl)
  ·exact info_size (by kernel_rfl)
  ·exact info_size (by kernel_rfl)
  ·exact info_size (by kernel_rfl)
 mixed:=by kernel_rfl
 row1:=by
  intro ty e size bytes h
  have hm:=lk_mem h
  simp only [env1,List.mem_cons,Prod.mk.injEq,List.not_mem_nil,or_false] at hm
  rcases hm with ⟨rfl,rfl,rfl,rfl⟩
  ·exact row_one (by kernel_rfl)
 meth:=by intro ty n g h;cases h
 arr:=by
  intro ty n size h
  have hm:=lk_mem h
  simp only [env1,List.mem_cons,Prod.mk.injEq,List.not_mem_nil,or_false] at hm
  rcases hm with ⟨rfl,rfl,rfl⟩ | ⟨rfl,rfl,rfl⟩ | ⟨rfl,rfl,rfl⟩
  ·exact array_at Tryz.underlying69 (by kernel_rfl)
  ·exact array_at Tryz.underlying83 (by kernel_rfl)
  ·exact array_at Tryz.underlying81 (by kernel_rfl)
def env:Sx.Env:=Sxk.app Sxt.env env1
theorem env_ok:Sx.Env.Ok env Tryz.prog:=app_ok Sxt.env_ok env1_ok
end Go.Proofs.YtmoopmcdolonjaaGreatDoor.Sxv
namespace Go.Proofs.YtmoopmcdolonjaaGreatDoor.task
open Go.RowKit Go.ChangeShapes Go.WideShapes Sx txn queue greedy shard pool Go.Proofs.YtmoopmcdolonjaaGreatDoor.look lock
theorem typed_two2:Typed Tryz.prog 69 (.flat [.int,.int]):=.array (n:=2) Tryz.underlying69 typed_int (by kernel_rfl)
theorem okWide_array2 {P:Program} {r:Reach} {base n:Nat} {w:World} {t e:TypeId} {v:Value} (ht:P.underlying t=some (.array n e)) (h:Value.okWide P w r base t v):∃cs,v=.agg cs∧cs.size=P.cellsOf t:=by
 simp only [Value.okWide,ht] at h
 obtain ⟨cs,h1,h2,_⟩:=h
 exact ⟨cs,h1,h2⟩
section
variable {H : Type} {enc : TypeId × Value → H} {W : World} {r : Reach} {b0 base : Nat} {spare : Nat → Bool} {held : Bool} {v : Value} {d : DataW H} {p : List MemPlace}
theorem open_two2 (hv:Value.okWide Tryz.prog W r b0 69 v) (h:DataW.Trod enc Tryz.prog W base spare held 69 v d p):∃x y,v=.agg #[.int .i64 x,.int .i64 y]∧Fits x∧Fits y:=by
 obtain ⟨cs,rfl,_⟩:=okWide_array2 Tryz.underlying69 hv
 obtain ⟨fuel,hf⟩:=h
 obtain ⟨d,hd⟩:=lies_of_trod fuel typed_two2 hf
 obtain ⟨cs⟩:=cs
 simp only [Value.cells] at hd
 cases hd with
 | flat hl=>
 cases hl with
 | cons h1 hl=>
 cases hl with
 | cons h2 hl=>
 cases hl
 cases h1 with
 | int f1=>
 cases h2 with
 | int f2=>exact ⟨_,_,rfl,f1,f2⟩
end
end Go.Proofs.YtmoopmcdolonjaaGreatDoor.task
