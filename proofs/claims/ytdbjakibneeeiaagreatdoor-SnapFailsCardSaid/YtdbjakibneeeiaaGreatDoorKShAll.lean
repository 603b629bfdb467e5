/- Layer 11 (shard): lists in the order of a key. -/
import Derived.WalkKit
import Derived.Test.YtdbjakibneeeiaaGreatDoorKGreedyAll
import Derived.Test.YtdbjakibneeeiaaGreatDoorKG25TkEnv
import Derived.Test.YtdbjakibneeeiaaGreatDoorKTxnId
import Derived.Test.YtdbjakibneeeiaaGreatDoorKG22HeapAll
import Derived.Test.YtdbjakibneeeiaaGreatDoorKG3SxB
import Derived.Test.YtdbjakibneeeiaaGreatDoorKFnvT
import Derived.Lib.Hide
import Derived.Test.YtdbjakibneeeiaaGreatDoorKG18QueueOpen
set_option linter.all false
set_option maxHeartbeats 4000000
set_option maxRecDepth 100000
namespace Go.Proofs.YtdbjakibneeeiaaGreatDoor.ax
section
variable {α β : Type}
def ins (f:α→Int) (x:α):List α→List α
 | []=>[x]
 | y::l=>if f x<f y then x::y::l else y::ins f x l
def uq (f:α→Int) (x:α) (l:List α):(ins f x l).Perm (x::l):=by
 induction l with
 | nil=>exact List.Perm.refl _
 | cons y l ih=>
  unfold ins
  split
  ·exact List.Perm.refl _
  ·exact (ih.cons y).trans (List.Perm.swap x y l)
def iq (f:α→Int) (k:Int) (l:List α):List α:=l.filter (fun x=>f x==k)
def rR {f:α→Int} {k:Int} {l:List α} (h:∀x∈l,f x≠k):iq f k l=[]:=by
 unfold iq
 rw [List.filter_eq_nil_iff]
 intro x hx
 simpa using h x hx
def fW (f:α→Int) (k:Int) (l r:List α):iq f k (l++r)=iq f k l++iq f k r:=List.filter_append ..
def rF (f:α→Int) (k:Int) (x:α):iq f k [x]=if f x=k then [x] else []:=by
 unfold iq
 by_cases h:f x=k <;> simp [h]
def iK {f:α→Int} {k:Int} {l:List α} {x:α} (h:x∈iq f k l):x∈l∧f x=k:=by
 unfold iq at h
 rw [List.mem_filter] at h
 exact ⟨h.1,by simpa using h.2⟩
end
end Go.Proofs.YtdbjakibneeeiaaGreatDoor.ax
namespace Go.Proofs.YtdbjakibneeeiaaGreatDoor.ax
open Go.RowKit Sx txn queue aL
section
variable {E : Sx.Env} {P : Program} {W : World} {G : Option Nat} {Q : Ending → World → Prop} {ds : List Deferred}
def C9 (hE:E.Ok P) {ty:TypeId} {ad:Option Addr} {xs vs:List Value} {k sz n:Nat} {m:M} {K:Value→Tree} {a:Addr} (hty:lk E.agg ty=some (some sz)) (hl:vs.length=sz) (hm:ay (pt ad n) xs∈m.facts) (hk:k<n) (ha:ad.isSome=true)
  (hx:∀(j:Nat) (u:Value),vs[j]?=some u→xs[k*sz+j]?=some u) (haddr:a=(ad.getD ⟨0,0,none⟩).add (k*sz)) (h:(K (.agg vs.toArray)).aD P W G Q ds):(Tree.load ty a m K).aD P W G Q ds:=by
 rw [dR hk] at hm
 refine ⟨.agg vs.toArray,fun β ρ w hM=>?_,h⟩
 cases ad with
 | none=>cases ha
 | some ad=>
  have:=hE.aggN ty sz hty a w vs hl (fun j u hu=>by
   have hc:=(hM.at_ hm).cell (hx j u hu)
   rw [haddr]
   simp only [Option.getD_some]
   obtain ⟨b,o,sp⟩:=ad
   unfold Addr.add at hc ⊢
   by_cases h1:k*sz=0 <;> by_cases h2:j=0 <;> simp_all [Nat.add_assoc])
  rw [this]
end
def copied (s b:Int) (l:List Tx) (a:Option Addr) (n c:Nat) (w:World) (hs:Sl a n c) (hn:n=l.length) (hrow:At w (pt a n) (ah l)) (hl:l.length≤1000000) :
  Calls Tryz.prog 165 (List.toArray [acc s b a n c]) w fun e w'=>∃i:One,Sl i.1 n i.2∧dy w w' e (acc s b i.1 n i.2) [ay (pt i.1 n) (ah l)]:=by
 refine au DO.aq.keeps Tryz.func165 rfl [] (aQ _ _ (by kernel_rfl)) [ay (pt a n) (ah l)] (ru hrow) ?_
 conv=>arg 5;whnf
 refine E0 n (ah l) rfl (by kernel_rfl) (fun β ρ w' hM'=>clone l a n c w' hs hn (hM'.at_ (.head _)) hl) ?_
 conv=>arg 5;whnf
 refine bV fun u c_u h_u f_u=>?_
 conv=>arg 5;whnf
 refine av fun β ρ w' hM'=>⟨(u,c_u),h_u,rfl,hM'.below,fun φ hφ=>?_⟩
 simp only [List.mem_singleton] at hφ
 subst hφ
 exact lU _ hM' (.head _) f_u
def XZ (a:Option Addr) (n c:Nat) (v:Int):Value:=.agg #[.slice a n c,.int .i64 v]
end Go.Proofs.YtdbjakibneeeiaaGreatDoor.ax
namespace Go.Proofs.YtdbjakibneeeiaaGreatDoor.ax
open Go.RowKit Sx txn queue aL
def Aw (l r:List Ac):aF (l++r)=aF l++aF r:=by simp [aF]
def B6 (l:List Ac):∀u∈aF l,u.oneCell'=true:=by
 intro u hu
 simp only [aF,List.mem_flatMap,Ac.cs] at hu
 obtain ⟨x,_,hx⟩:=hu
 simp at hx
 rcases hx with rfl | rfl | rfl <;> rfl
def AP {l:List Ac} {j:Nat} {u:Value} (h:(aF l)[j]?=some u):0<l.length:=by
 cases l with
 | nil=>simp [aF] at h
 | cons x l=>simp
end Go.Proofs.YtdbjakibneeeiaaGreatDoor.ax
namespace Go.Proofs.YtdbjakibneeeiaaGreatDoor.ax
open Go.RowKit Sx txn queue aL
def LC {w:World} {a:Option Addr} {xs:List Value} (n:Nat) (h:At w a xs):At w (pt a n) xs:=by
 unfold Sx.pt
 split
 ·exact fun g hg=>by cases hg
 ·exact h
abbrev PA:=Int×Int×List Tx
def jg (x:Ac):PA:=(x.s,x.b,x.l)
end Go.Proofs.YtdbjakibneeeiaaGreatDoor.ax
namespace Go.Proofs.YtdbjakibneeeiaaGreatDoor.ax
open Go.RowKit Sx txn queue aL
section
variable {P : Program} {W : World} {G : Option Nat} {Q : Ending → World → Prop} {ds : List Deferred}
def AX {E:Env} (hE:E.Ok P) {q:Option (List Fact)} {o:Oper} {m:M} {t:List T} {k:M→List T→T→Tree} {x y:Operand} {ty e:TypeId} {size bytes n b j:Nat} {v:Value} {xs news:List Value} {te:TypeId} (fs:List Fact)
  (ho:o.op=.call ⟨.builtin .append,#[x,y],#[ty,ty]⟩) (hrow:lk E.row ty=some (e,size,bytes)) (hx:ev t x=.v v) (hy:ev t y=.s b j) (hb:m.own[b]?=some (some (news.map T.v,te))) (hj:news.length=j*size)
  (hFV:(v=.slice none 0 0∧n=0)∨(gB v e size n xs∈m.facts∧TV W v n)) (hl:xs.length=n*size) (h63:n+j≤maxLen) (hby:(n+j)*bytes≤140737488355328)
  (hq:∀F,q=some F→v=.slice none 0 0∨∃ψ∈F,ψ.g=v.ownBlock) (hfs:∀ψ∈fs,ψ∈m.facts∧∀g,ψ.g=some g→v.ownBlock≠some g)
  (h:∀v',TV W v' (n+j)→(∀ψ∈fs,∀g,ψ.g=some g→v'.ownBlock≠some g)→(k { m with facts:=gB v' e size (n+j) (xs++news)::fs } t (.v v')).aD P W G Q ds):(Tree.op q o m t k).aD P W G Q ds:=by
 intro β ρ a w hm hr K Q' hK
 obtain ⟨dst,op,ty',pos,after,guard⟩:=o
 simp only at ho
 subst ho
 have h1:=hr.ev x
 rw [hx] at h1
 have h1:a.eval x=v:=h1
 have h2:=hr.ev y
 rw [hy] at h2
 obtain ⟨g2,hg2,h2⟩:=h2
 obtain ⟨g3,l,hg3,hw3,hr3,ho3⟩:=hm.own b _ te hb
 rw [hg2] at hg3
 cases hg3
 have hr3:=tV hr3
 subst hr3
 obtain ⟨ht,i,z,hi,hz,hsize,hbb,hzs,hsz⟩:=hE.row ty e size bytes hrow
 have hown:w.ownsRow W.heap.size e size v n xs:=hFV.elim (fun h=>⟨hl,.inl h⟩) fun h=>iP hm h.1 h.2 hl
 obtain ⟨v',w',hrun,hown',hgr,hwhere⟩:=nS (P:=P) (w:=w) ty ty' e i z size bytes ht hi hz hsize hbb hzs hsz hown (some ⟨g2,0,none⟩) j j l hj (fun a0 ha0 jj u hu=>by
  cases ha0
  simp only [eW,World.cell?]
  rw [hw3]
  simpa using hu) ho3 (fun hn=>by cases hn) h63 hby hm.grown.size
 unfold Oper.wp
 have:(execOp a.eval ⟨dst,.call ⟨.builtin .append,#[x,y],#[ty,ty]⟩,ty',pos,after,guard⟩).run P w=.ok (.value v') w':=by
  simp [execOp,resolve,invoke,builtin,h1,h2,hrun]
 rw [this]
 have hTV:=vc hown'
 have hfo:=qW hown'
 have hnew:∀{w0:World},w0=w→∀g,(gB v' e size (n+j) (xs++l)).g=some g→v'.ownBlock=some w.heap.size→lB m β ρ g:=fun _ g hg he=>by
  have e1:g=w.heap.size:=by
   have:v'.ownBlock=some g:=hg
   rw [he] at this
   exact (Option.some.inj this).symm
  exact hm.apart (.inr (.inl (by omega)))
 have hap:∀ψ∈fs,∀g,ψ.g=some g→v'.ownBlock≠some g:=fun ψ hψ g hg e=>by
  rcases hwhere with he | ⟨he,_⟩
  ·exact (hfs ψ hψ).2 g hg (he▸e)
  ·obtain ⟨_,o,ho,_⟩:=hm.fact ψ (hfs ψ hψ).1 g hg
   have h8:=(Array.getElem?_eq_some_iff.1 ho).1
   rw [he] at e
   cases e
   omega
 have hV2:(v=.slice none 0 0∧n=0)∨∃g cap,v=.slice (some ⟨g,0,none⟩) n cap∧W.heap.size≤g∧gB v e size n xs∈m.facts:=by
  rcases hFV with h | ⟨h,h3 | ⟨g,cap,h4,h5⟩⟩
  ·exact .inl h
  ·exact .inl h3
  ·exact .inr ⟨g,cap,h4,h5,h⟩
 rcases hV2 with ⟨rfl,hn⟩ | ⟨g,cap,rfl,hgW,hF⟩
 ·have hbel:Below w.heap.size w w':=⟨hgr.os,hgr.tape,hgr.output,hgr.size,fun k hk=>hgr.block k hk (by simp [Value.ownBlock])⟩
  refine hK _ t (.v v') β ρ w' v' (h v' hTV hap) ?_ hr rfl (fun F hq=>⟨rfl,rfl,.inl hbel⟩)
  have h5:Mem W G { m with facts:=fs } β ρ w':=by
   have:=hm.grow hbel
   exact ⟨this.grown,this.nd,this.bl,this.lo,this.own,this.rl,this.row,this.rb,this.rows,fun φ hφ=>this.fact φ (hfs φ hφ).1⟩
  refine h5.eA [gB v' e size (n+j) (xs++l)] fun φ hφ g hg=>?_
  simp only [List.mem_singleton] at hφ
  subst hφ
  refine ⟨?_,(hfo g hg).2⟩
  rcases hwhere with he | ⟨he,_⟩
  ·have h7:v'.ownBlock=some g:=hg
   rw [he] at h7
   cases h7
  ·exact hnew rfl g hg he
 ·refine hK _ t (.v v') β ρ w' v' (h v' hTV hap) ?_ hr rfl (fun F hF'=>⟨rfl,rfl,.inr ?_⟩)
  ·rcases hwhere with he | ⟨he,_⟩
   ·refine hm.turn hF rfl (.inl hgW) hgr fun ψ hψ=>?_
    rcases List.mem_cons.1 hψ with rfl | hψ
    ·exact .inr ⟨he,(hfo g he).2⟩
    ·refine .inl ⟨(hfs ψ hψ).1,fun hg=>(hfs ψ hψ).2 g hg rfl⟩
   ·have h5:Mem W G { m with facts:=fs } β ρ w':=hm.turn hF rfl (.inl hgW) hgr fun ψ hψ=>.inl ⟨(hfs ψ hψ).1,fun hg=>(hfs ψ hψ).2 g hg rfl⟩
    refine h5.eA [gB v' e size (n+j) (xs++l)] fun φ hφ g hg=>?_
    simp only [List.mem_singleton] at hφ
    subst hφ
    exact ⟨hnew rfl g hg he,(hfo g hg).2⟩
  ·rcases hq F hF' with h | ⟨ψ,h1,h2⟩
   ·cases h
   ·exact ⟨ψ,h1,g,h2,.inl hgW,hgr⟩
end
abbrev cH (s:Int) (L:List Ac):List Ac:=iq (fun x:Ac=>x.s) s L
def jo (ks:List Int) (x:Ac):List Int:=if x.s∈ks then ks else ks++[x.s]
def aI (L:List Ac):List Int:=L.foldl jo []
def nK {L:List Ac} {k:Nat} {x:Ac} (h:L[k]?=some x):aI (L.take (k+1))=jo (aI (L.take k)) x:=by unfold aI;rw [List.take_add_one,h,List.foldl_append];rfl
def AR {ks:List Int} (x:Ac) (h:ks.Nodup):(jo ks x).Nodup:=by
 unfold jo
 split
 ·exact h
 ·rename_i hx
  rw [List.nodup_append]
  exact ⟨h,by simp,fun a ha b hb=>by simp at hb;subst hb;exact fun e=>hx (e▸ha)⟩
def qD:∀(L:List Ac) (ks:List Int),ks.Nodup→(L.foldl jo ks).Nodup
 | [],ks,h=>h
 | x::L,ks,h=>qD L _ (AR x h)
def qX (L:List Ac):(aI L).Nodup:=qD L [] List.nodup_nil
def sj (ks:List Int) (x:Ac) (s:Int):s∈jo ks x↔s∈ks∨s=x.s:=by
 unfold jo
 split
 ·rename_i hx
  exact ⟨.inl,fun h=>h.elim id fun e=>e▸hx⟩
 ·simp
def wm:∀(L:List Ac) (ks:List Int) (s:Int),s∈L.foldl jo ks↔s∈ks∨∃x∈L,x.s=s
 | [],ks,s=>by simp
 | x::L,ks,s=>by
  rw [List.foldl_cons,wm L,sj]
  simp only [List.mem_cons,exists_eq_or_imp]
  constructor
  ·rintro ((h | h) | h);exact .inl h;exact .inr (.inl h.symm);exact .inr (.inr h)
  ·rintro (h | h | h);exact .inl (.inl h);exact .inl (.inr h.symm);exact .inr h
def mh (L:List Ac) (s:Int):s∈aI L↔∃x∈L,x.s=s:=by unfold aI;rw [wm];simp
def uB {L:List Ac} {s:Int} (h:s∉aI L):cH s L=[]:=rR fun x hx e=>h ((mh L s).2 ⟨x,hx,e⟩)
def rS {L:List Ac} {k:Nat} {x:Ac} (h:L[k]?=some x) (s:Int):cH s (L.take (k+1))=cH s (L.take k)++(if x.s=s then [x] else []):=by
 unfold cH
 rw [List.take_add_one,h,fW]
 show _++iq _ s [x]=_
 rw [rF]
def Jw (s:Int) (L:List Ac):(cH s L).length≤L.length:=List.length_filter_le ..
def qp (f:Int→Value) (s:Int) (v:Value):Int→Value:=fun y=>if y=s then v else f y
def gJ (ks:List Int) (f:Int→Value):List (Int×Value):=ks.map fun s=>(s,f s)
def x8 (ks:List Int) (f:Int→Value) (s:Int):ez (gJ ks f) s=if s∈ks then some (f s) else none:=by
 induction ks with
 | nil=>rfl
 | cons k ks ih=>
  show ez ((k,f k)::gJ ks f) s=_
  rw [dM,ih]
  by_cases h:k=s
  ·subst h;simp
  ·simp [h,Ne.symm h]
def Hv {ks:List Int} {f:Int→Value} {s:Int} {v:Value} (h:s∉ks):gJ ks (qp f s v)=gJ ks f:=by
 unfold gJ
 exact List.map_congr_left fun k hk=>by
  have hks:k≠s:=fun e=>h (by rw [← e];exact hk)
  simp [qp,hks]
def Ch (x:Ac) (f:Int→Value) (v:Value):∀{ks:List Int},ks.Nodup→cw (gJ ks f) x.s v=gJ (jo ks x) (qp f x.s v)
 | [],_=>by simp [gJ,cw,jo,qp]
 | k::ks,h=>by
  rw [List.nodup_cons] at h
  show cw ((k,f k)::gJ ks f) x.s v=_
  unfold cw
  by_cases hk:k=x.s
  ·rw [if_pos hk]
   have e1:jo (k::ks) x=k::ks:=by unfold jo;rw [if_pos (by rw [hk];exact List.mem_cons_self ..)]
   rw [e1]
   show _=(k,qp f x.s v k)::gJ ks (qp f x.s v)
   rw [Hv (by rw [← hk];exact h.1),hk]
   simp [qp]
  ·rw [if_neg hk,Ch x f v h.2]
   have e1:jo (k::ks) x=k::jo ks x:=by
    unfold jo
    by_cases hm:x.s∈ks
    ·rw [if_pos hm,if_pos (List.mem_cons_of_mem _ hm)]
    ·rw [if_neg hm,if_neg (by simp [hm];exact fun e=>hk e.symm)];rfl
   rw [e1]
   show _=(k,qp f x.s v k)::gJ (jo ks x) (qp f x.s v)
   have e2:qp f x.s v k=f k:=by unfold qp;rw [if_neg hk]
   rw [e2]
def I8 (f:Int→Value) (L:List Ac) (s:Int):Fact:=gB (f s) 90 3 (cH s L).length (aF (cH s L))
structure Bk (w:World) (g:Nat) (f:Int→Value) (L:List Ac):Prop where
 tv:∀s,TV w (f s) (cH s L).length
 nil:∀s,s∉aI L→f s=.slice none 0 0
 apart:∀s s',s≠s'→∀b,(f s).ownBlock=some b→(f s').ownBlock≠some b
 lo:∀s b,(f s).ownBlock=some b→w.heap.size≤b∧b≠g
def Bk.start (w:World) (g:Nat):Bk w g (fun _=>.slice none 0 0) []:=⟨fun s=>.inl ⟨rfl,rfl⟩,fun s _=>rfl,fun s s' _ b h=>(by cases h),fun s b h=>(by cases h)⟩
def Bk.step {w:World} {g:Nat} {f:Int→Value} {L:List Ac} {k:Nat} {x:Ac} {v:Value} (h:Bk w g f (L.take k)) (hx:L[k]?=some x) (hv:TV w v ((cH x.s (L.take k)).length+1)) (hap:∀s,s≠x.s→∀b,(f s).ownBlock=some b→v.ownBlock≠some b) (hg:v.ownBlock≠some g):Bk w g (qp f x.s v) (L.take (k+1)):=by
 have hvb:∀b,v.ownBlock=some b→w.heap.size≤b:=fun b hb=>by
  rcases hv with ⟨rfl,_⟩ | ⟨g',cap,rfl,h'⟩
  ·cases hb
  ·cases hb;exact h'
 constructor
 ·intro s
  rw [rS hx]
  by_cases hs:x.s=s
  ·subst hs
   simp only [qp,if_true]
   rw [List.length_append];exact hv
  ·rw [if_neg hs,List.append_nil]
   unfold qp
   rw [if_neg (Ne.symm hs)]
   exact h.tv s
 ·intro s hs
  rw [nK hx,sj,not_or] at hs
  unfold qp
  rw [if_neg hs.2]
  exact h.nil s hs.1
 ·intro s s' hss b hb
  unfold qp at *
  by_cases h1:s=x.s
  ·rw [if_pos h1] at hb
   have h2:s'≠x.s:=fun e=>hss (h1.trans e.symm)
   rw [if_neg h2]
   exact fun e=>hap s' h2 b e hb
  ·rw [if_neg h1] at hb
   by_cases h2:s'=x.s
   ·rw [if_pos h2];exact hap s h1 b hb
   ·rw [if_neg h2];exact h.apart s s' hss b hb
 ·intro s b hb
  unfold qp at hb
  by_cases h1:s=x.s
  ·rw [if_pos h1] at hb
   exact ⟨hvb b hb,fun e=>hg (e▸hb)⟩
  ·rw [if_neg h1] at hb
   exact h.lo s b hb
def J3 (ks:List Int) (f:Int→Value) (L:List Ac):List Fact:=ks.map (I8 f L)
def kT (g:Nat) (f:Int→One) (L:List Ac):List Fact:=bL g (gJ (aI L) fun s=>.slice (f s).1 (cH s L).length (f s).2)::(aI L).map fun s=>ay (pt (f s).1 (cH s L).length) (aF (cH s L))
def Gm (L:List Ac) (a:Option Addr) (n c:Nat) (w:World) (hA:zB w a n c L) (h1000:n≤1000000) :
  Calls Tryz.prog 164 (List.toArray [.slice a n c]) w fun e w'=>∃i:Nat×(Int→One),(∀s,Sl (i.2 s).1 (cH s L).length (i.2 s).2)∧dy w w' e (.map (some i.1)) (kT i.1 i.2 L):=by
 have hs:=hA.1
 have hn:=hA.2.1
 have hn63:=hs.le
 refine au ((DO.aq.keeps.open_ [1000000] true).FN 1) Tryz.func164 rfl [(5,(aK [0,1,2,3,4,5,6,7,8,9] [10],[]))] (aQ _ _ (by kernel_rfl)) (dm a n L) hA.facts ?_
 conv=>arg 5;whnf
 refine jP rfl (fun g hg=>?_)
 have hgA:∀ψ∈dm a n L,ψ.g≠some g:=fun ψ hψ e=>by
  obtain ⟨o,ho,_⟩:=hA.facts ψ hψ g e
  have:=(Array.getElem?_eq_some_iff.1 ho).1
  omega
 conv=>arg 5;whnf
 refine eV ((DO.aq.keeps.open_ [1000000] true).FN 1) [(5,(aK [0,1,2,3,4,5,6,7,8,9] [10],[]))] (aQ _ _ (by kernel_rfl)) [0,0] (fun i:Nat×(Int→Value)=>i.1≤n∧Bk w g i.2 (L.take i.1)) (fun i=>(⟨[],[],bL g (gJ (aI (L.take i.1)) i.2)::(J3 (aI (L.take i.1)) i.2 (L.take i.1)++dm a n L)⟩,[.any,.any,.any,.v (.map (some g)),.any,.any,.any,.v (.slice a n c),.v (.int .i64 n),.v (.int .i64 i.1),.any,.any,.any,.any,.any,.any,.any,.any,.any,.any,.any,.any,.any,.any,.any])) (fun i=>n - i.1) (0,fun _=>.slice none 0 0) ⟨Nat.zero_le _,Bk.start w g⟩ ⟨by repeat' first | exact trivial | refine ⟨.inl rfl,?_⟩ | refine ⟨.inr rfl,?_⟩,⟨by repeat' first | exact trivial | refine ⟨.inl rfl,?_⟩ | refine ⟨.inr rfl,?_⟩,by repeat' first | exact trivial | refine ⟨.inl rfl,?_⟩ | refine ⟨.inr rfl,?_⟩,fun _ h=>h⟩,rfl⟩ ?_
 rintro ⟨k,f⟩ ⟨hk,hB⟩
 have hk:k≤n:=hk
 have hB:Bk w g f (L.take k):=hB
 conv=>arg 5;whnf
 refine bk (fun h1=>?_) (fun h1=>?_)
 ·have hlt:k<n:=by have h3:=of_decide_eq_true (show decide ((k:Int)<(n:Int))=true from h1);omega
  obtain ⟨x,hx⟩:∃x,L[k]?=some x:=⟨_,List.getElem?_eq_getElem (by omega)⟩
  have hxm:x∈L:=List.mem_of_getElem? hx
  have hnd:=qX (L.take k)
  have hlk:(ez (gJ (aI (L.take k)) f) x.s).getD (.slice none 0 0)=f x.s:=by
   rw [x8]
   by_cases h:x.s∈aI (L.take k)
   ·rw [if_pos h];rfl
   ·rw [if_neg h,hB.nil _ h];rfl
  have hsep:∀φ∈[bL g (gJ (aI (L.take k)) f)],∀ψ∈J3 (aI (L.take k)) f (L.take k)++dm a n L,∀g',ψ.g=some g'→φ.g≠some g':=fun φ hφ ψ hψ g' hg' e=>by
   simp only [List.mem_singleton] at hφ
   subst hφ
   cases e
   rcases List.mem_append.1 hψ with hψ | hψ
   ·obtain ⟨s',hs',rfl⟩:=List.mem_map.1 hψ
    exact (hB.lo s' g hg').2 rfl
   ·exact hgA ψ hψ hg'
  have hQ:f x.s=.slice none 0 0∨∃ψ∈J3 (aI (L.take k)) f (L.take k)++dm a n L,ψ.g=(f x.s).ownBlock:=by
   by_cases h:x.s∈aI (L.take k)
   ·exact .inr ⟨_,List.mem_append_left _ (List.mem_map.2 ⟨x.s,h,rfl⟩),rfl⟩
   ·exact .inl (hB.nil _ h)
  conv=>arg 5;whnf
  refine ai ⟨by omega,by show (k:Int)<(n:Int);omega,hs.some hlt⟩ ?_
  conv=>arg 5;whnf
  refine C9 DO.aq (vs:=x.cs) (sz:=3) (k:=k) rfl rfl (.tail _ (List.mem_append_right _ (.head _))) hlt (hs.some hlt) (fQ hx) rfl ?_
  conv=>arg 5;whnf
  refine ai hsep ?_
  conv=>arg 5;whnf
  refine ct (z:=.slice none 0 0) (l:=gJ (aI (L.take k)) f) Tryz.underlying211 Tryz.underlying3 (fun w=>by kernel_rfl) (.head _) ?_
  rw [show (if false=true then Value.tuple #[(ez (gJ (aI (L.take k)) f) x.s).getD (.slice none 0 0),.bool (ez (gJ (aI (L.take k)) f) x.s).isSome] else (ez (gJ (aI (L.take k)) f) x.s).getD (.slice none 0 0))=f x.s from hlk]
  have hol:=Jw x.s (L.take k)
  have hkl:(L.take k).length≤k:=by rw [List.length_take];omega
  have hFS:∀ψ∈bL g (gJ (aI (L.take k)) f)::(J3 ((aI (L.take k)).filter (fun s=>s != x.s)) f (L.take k)++dm a n L),ψ∈bL g (gJ (aI (L.take k)) f)::(J3 (aI (L.take k)) f (L.take k)++dm a n L)∧∀g',ψ.g=some g'→(f x.s).ownBlock≠some g':=fun ψ hψ=>by
   rcases List.mem_cons.1 hψ with rfl | hψ
   ·exact ⟨.head _,fun g' hg' e=>by cases hg';exact (hB.lo _ _ e).2 rfl⟩
   ·rcases List.mem_append.1 hψ with hψ | hψ
    ·obtain ⟨s',hs',rfl⟩:=List.mem_map.1 hψ
     rw [List.mem_filter] at hs'
     refine ⟨.tail _ (List.mem_append_left _ (List.mem_map.2 ⟨s',hs'.1,rfl⟩)),fun g' hg'=>hB.apart s' x.s (by simpa using hs'.2) g' hg'⟩
    ·refine ⟨.tail _ (List.mem_append_right _ hψ),fun g' hg' e=>?_⟩
     obtain ⟨o,ho,_⟩:=hA.facts ψ hψ g' hg'
     have:=(Array.getElem?_eq_some_iff.1 ho).1
     have:=(hB.lo _ _ e).1
     omega
  have hFV:(f x.s=.slice none 0 0∧(cH x.s (L.take k)).length=0)∨(gB (f x.s) 90 3 (cH x.s (L.take k)).length (aF (cH x.s (L.take k)))∈bL g (gJ (aI (L.take k)) f)::(J3 (aI (L.take k)) f (L.take k)++dm a n L)∧TV w (f x.s) (cH x.s (L.take k)).length):=by
   by_cases h:x.s∈aI (L.take k)
   ·exact .inr ⟨.tail _ (List.mem_append_left _ (List.mem_map.2 ⟨x.s,h,rfl⟩)),hB.tv _⟩
   ·exact .inl ⟨hB.nil _ h,by rw [uB h];rfl⟩
  conv=>arg 5;whnf
  refine AX ((DO.aq.keeps.open_ [1000000] true).FN 1) (v:=f x.s) (n:=(cH x.s (L.take k)).length) (xs:=aF (cH x.s (L.take k))) (news:=x.cs) (j:=1) (bL g (gJ (aI (L.take k)) f)::(J3 ((aI (L.take k)).filter (fun s=>s != x.s)) f (L.take k)++dm a n L)) rfl rfl rfl rfl rfl rfl hFV (jb _) (by show _+1≤maxLen;unfold maxLen;omega) (by show (_+1)*40≤_;omega) (by intro F hF;cases hF;exact hQ) (by exact hFS) (fun v2 hV2 hap=>?_)
  have hv2g:v2.ownBlock≠some g:=hap _ (.head _) g rfl
  have hB2:=hB.step hx hV2 (fun s hs b hb=>by
   by_cases h:s∈aI (L.take k)
   ·exact hap (I8 f (L.take k) s) (.tail _ (List.mem_append_left _ (List.mem_map.2 ⟨s,List.mem_filter.2 ⟨h,by simpa using hs⟩,rfl⟩))) b hb
   ·rw [hB.nil s h] at hb;cases hb) hv2g
  have eo:gB v2 90 3 ((cH x.s (L.take k)).length+1) (aF (cH x.s (L.take k))++x.cs)=I8 (qp f x.s v2) (L.take (k+1)) x.s:=by
   unfold I8
   rw [rS hx,if_pos rfl,List.length_append,j7]
   simp [qp]
  have ek:∀s,s≠x.s→I8 (qp f x.s v2) (L.take (k+1)) s=I8 f (L.take k) s:=fun s hs=>by
   unfold I8
   rw [rS hx,if_neg (Ne.symm hs),List.append_nil]
   simp [qp,hs]
  conv=>arg 5;whnf
  refine gG (g:=g) (l:=gJ (aI (L.take k)) f) (x:=x.s) (v:=v2) (bL g (cw (gJ (aI (L.take k)) f) x.s v2)::gB v2 90 3 ((cH x.s (L.take k)).length+1) (aF (cH x.s (L.take k))++x.cs)::(J3 ((aI (L.take k)).filter (fun s=>s != x.s)) f (L.take k)++dm a n L)) rfl rfl rfl rfl Tryz.underlying211 Tryz.underlying3 (.tail _ (.head _)) (.inl hg) (fun ψ hψ=>?_) ?_
  ·rcases List.mem_cons.1 hψ with rfl | hψ
   ·exact .inr rfl
   ·rcases List.mem_cons.1 hψ with rfl | hψ
    ·exact .inl ⟨.head _,hv2g⟩
    ·refine .inl ⟨.tail _ (.tail _ hψ),fun e=>?_⟩
     rcases List.mem_append.1 hψ with hψ | hψ
     ·obtain ⟨s',hs',rfl⟩:=List.mem_map.1 hψ
      exact (hB.lo s' g e).2 rfl
     ·exact hgA ψ hψ e
  conv=>arg 5;whnf
  refine ai ⟨by show -9223372036854775808≤(k:Int)+1;omega,by show (k:Int)+1≤9223372036854775807;omega⟩ ?_
  conv=>arg 5;whnf
  refine aO ⟨(k+1,qp f x.s v2),⟨hlt,hB2⟩,⟨by repeat' first | exact trivial | refine ⟨.inl rfl,?_⟩ | refine ⟨.inr rfl,?_⟩,⟨by repeat' first | exact trivial | refine ⟨.inl rfl,?_⟩ | refine ⟨.inr rfl,?_⟩,by repeat' first | exact trivial | refine ⟨.inl rfl,?_⟩ | refine ⟨.inr rfl,?_⟩,fun φ hφ=>by
    rcases List.mem_cons.1 hφ with rfl | hφ
    ·rw [nK hx,← Ch x f v2 hnd];exact .head _
    ·rcases List.mem_append.1 hφ with hφ | hφ
     ·obtain ⟨s',hs',rfl⟩:=List.mem_map.1 hφ
      by_cases h:s'=x.s
      ·subst h;show I8 (qp f x.s v2) (L.take (k+1)) x.s∈_;rw [← eo];exact .tail _ (.head _)
      ·show I8 (qp f x.s v2) (L.take (k+1)) s'∈_
       rw [ek s' h]
       have hs2:s'∈aI (L.take (k+1)):=hs'
       rw [nK hx,sj] at hs2
       exact .tail _ (.tail _ (List.mem_append_left _ (List.mem_map.2 ⟨s',List.mem_filter.2 ⟨hs2.resolve_right h,by simpa using h⟩,rfl⟩)))
     ·exact .tail _ (.tail _ (List.mem_append_right _ hφ))⟩,rfl⟩,by show n - (k+1)<n - k;omega⟩
 ·have hkn:k=n:=by have h3:=of_decide_eq_false (show decide ((k:Int)<(n:Int))=false from h1);omega
  have e:L.take k=L:=List.take_of_length_le (by omega)
  rw [e] at hB
  rw [e]
  conv=>arg 5;whnf
  refine av fun β ρ w' hM'=>?_
  have hch:∀s,∃o:One,f s=.slice o.1 (cH s L).length o.2∧Sl o.1 (cH s L).length o.2∧(∀ad,o.1=some ad→w.heap.size≤ad.block)∧At w' (pt o.1 (cH s L).length) (aF (cH s L)):=fun s=>by
   by_cases h:s∈aI L
   ·obtain ⟨a1,c1,h2,h3,h4,h5⟩:=oO (iP hM' (v:=f s) (e:=90) (size:=3) (n:=(cH s L).length) (xs:=aF (cH s L)) (.tail _ (List.mem_append_left _ (List.mem_map.2 ⟨s,h,rfl⟩))) (hB.tv s) (jb _))
    exact ⟨(a1,c1),h2,h3,h4,h5⟩
   ·refine ⟨(none,0),?_⟩
    rw [uB h,hB.nil s h]
    exact ⟨rfl,⟨Nat.le_refl _,Nat.zero_le _,fun _=>⟨rfl,rfl⟩⟩,fun _ h=>(by cases h),fun g hg=>(by cases hg)⟩
  obtain ⟨o,ho⟩:=Classical.axiomOfChoice hch
  refine ⟨(g,o),fun s=>(ho s).2.1,rfl,hM'.below,fun φ hφ g' hg'=>?_⟩
  rcases List.mem_cons.1 hφ with rfl | hφ
  ·have em:gJ (aI L) (fun s=>.slice (o s).1 (cH s L).length (o s).2)=gJ (aI L) f:=by
    unfold gJ
    exact List.map_congr_left fun s _=>by show (s,Value.slice (o s).1 (cH s L).length (o s).2)=(s,f s);rw [← (ho s).1]
   cases hg'
   show _∧∃ob,w'.heap[g]?=some ob∧(bL g (gJ (aI L) (fun s=>.slice (o s).1 (cH s L).length (o s).2))).holds ob
   rw [em]
   exact ⟨hg,(hM'.fact _ (.head _) g rfl).2⟩
  ·obtain ⟨s,hs1,rfl⟩:=List.mem_map.1 hφ
   refine ⟨?_,(ho s).2.2.2 g' hg'⟩
   have h5:=(ho s).2.2.1
   have h6:(pt (o s).1 (cH s L).length).map (·.block)=some g':=hg'
   unfold pt at h6
   split at h6
   ·cases h6
   ·obtain ⟨ad,had,rfl⟩:=Option.map_eq_some_iff.1 h6
    exact h5 ad had
end Go.Proofs.YtdbjakibneeeiaaGreatDoor.ax
namespace Go.Proofs.YtdbjakibneeeiaaGreatDoor.ax
open Go.RowKit Sx txn queue aL
def BO {α β:Type} (f:α→Int) (g:β→Int) (h:α→β) (hf:∀x,g (h x)=f x) (k:Int) (l:List α):iq g k (l.map h)=(iq f k l).map h:=by
 unfold iq
 rw [List.filter_map]
 congr 1
 exact List.filter_congr fun x _=>by simp [hf]
def oe (P:List PA) (s:Int):PA:=match iq (fun x:PA=>x.1) s P with | []=>(s,0,[]) | x::_=>x
def Fm {L:List Ac} {s:Int} (h:cH s L=[]):oe (L.map jg) s=(s,0,[]):=by
 unfold oe
 rw [BO (fun x:Ac=>x.s) (fun x:PA=>x.1) jg (fun _=>rfl),show iq (fun x:Ac=>x.s) s L=_ from h]
 rfl
def CS {L:List Ac} {s:Int} {x:Ac} {r:List Ac} (h:cH s L=x::r):oe (L.map jg) s=jg x:=by
 unfold oe
 rw [BO (fun x:Ac=>x.s) (fun x:PA=>x.1) jg (fun _=>rfl),show iq (fun x:Ac=>x.s) s L=_ from h]
 rfl
section
variable {W : World} {G : Option Nat} {Q : Ending → World → Prop} {ds : List Deferred}
def KN {ty:TypeId} {a:Option Addr} {n k j:Nat} {ad:Addr} {xs:List Value} {m:M} {K:Value→Tree} (v:Value) (hty:lk env.agg ty=some none) (hm:ay (pt a n) xs∈m.facts) (hk:k<n) (ha:a.isSome=true) (hv:xs[j]?=some v) (haddr:ad=(a.getD ⟨0,0,none⟩).add j) (h:(K v).aD Tryz.prog W G Q ds):(Tree.load ty ad m K).aD Tryz.prog W G Q ds:=by
 obtain ⟨ad',rfl⟩:=Option.isSome_iff_exists.1 ha
 rw [dR hk] at hm
 exact oq v hty hm hv haddr h
end
section
variable {P : Program} {W : World} {Q : Ending → World → Prop} {ds : List Deferred}
def Er {f:FuncId} {args:List Sx.T} {l:List Value} {m:M} {k:Value→List Fact→Tree} (L:List Ac) (hv:aH args=some l) (hc:aP P f=true)
  (hC:∀β ρ w,Mem W none m β ρ w→Calls P f (List.toArray l) w fun e w'=>∃i:Nat×(Int→One),(∀s,Sl (i.2 s).1 (cH s L).length (i.2 s).2)∧dy w w' e (.map (some i.1)) (kT i.1 i.2 L))
  (h:∀(g:Nat) (o:Int→One),(∀s,Sl (o s).1 (cH s L).length (o s).2)→(k (.map (some g)) (kT g o L)).aD P W none Q ds):(Tree.call f args m k).aD P W none Q ds:=
 rX (ι:=Nat×(Int→One)) (ok:=fun i=>∀s,Sl (i.2 s).1 (cH s L).length (i.2 s).2) (v:=fun i=>.map (some i.1)) (fs:=fun i=>kT i.1 i.2 L) hc (fun β ρ w vs hm hr=>by rw [aE _ _ _ hv hr];exact hC β ρ w hm) (fun i hi=>h i.1 i.2 hi)
end
def get (v:Int) (L:List Ac) (a:Option Addr) (n c:Nat) (s:Int) (w:World) (hA:zB w a n c L) (h1000:n≤1000000) :
  Calls Tryz.prog 136 (List.toArray [XZ a n c v,.int .i64 s]) w fun e w'=>∃i:One,Sl i.1 (oe (L.map jg) s).2.2.length i.2∧dy w w' e (acc (oe (L.map jg) s).1 (oe (L.map jg) s).2.1 i.1 (oe (L.map jg) s).2.2.length i.2) [ay (pt i.1 (oe (L.map jg) s).2.2.length) (ah (oe (L.map jg) s).2.2)]:=by
 have hn:=hA.2.1
 refine au DO.aq.keeps Tryz.func136 rfl [] (aQ _ _ (by kernel_rfl)) (dm a n L) hA.facts ?_
 conv=>arg 5;whnf
 refine Er (f:=164) L rfl (by kernel_rfl) (fun β ρ w' hM'=>Gm L a n c w' (Mem.RI hA hM' fun φ hφ=>hφ) h1000) (fun g o ho=>?_)
 conv=>arg 5;whnf
 refine ct (z:=.slice none 0 0) (l:=gJ (aI L) fun s=>.slice (o s).1 (cH s L).length (o s).2) Tryz.underlying211 Tryz.underlying3 (fun w=>by kernel_rfl) (.head _) ?_
 by_cases hs:s∈aI L
 ·have hlk:(ez (gJ (aI L) fun s=>.slice (o s).1 (cH s L).length (o s).2) s).getD (.slice none 0 0)=.slice (o s).1 (cH s L).length (o s).2:=by rw [x8,if_pos hs];rfl
  rw [show (if false=true then Value.tuple #[(ez (gJ (aI L) fun s=>.slice (o s).1 (cH s L).length (o s).2) s).getD (.slice none 0 0),.bool (ez (gJ (aI L) fun s=>.slice (o s).1 (cH s L).length (o s).2) s).isSome] else (ez (gJ (aI L) fun s=>.slice (o s).1 (cH s L).length (o s).2) s).getD (.slice none 0 0))=.slice (o s).1 (cH s L).length (o s).2 from hlk]
  have hmf:ay (pt (o s).1 (cH s L).length) (aF (cH s L))∈kT g o L++dm a n L:=List.mem_append_left _ (.tail _ (List.mem_map.2 ⟨s,hs,rfl⟩))
  obtain ⟨x,r,hxr⟩:∃x r,cH s L=x::r:=by
   obtain ⟨y,hy,hys⟩:=(mh L s).1 hs
   cases h:cH s L with
   | nil=>
    have hm:y∈cH s L:=by unfold cH iq;rw [List.mem_filter];exact ⟨hy,by simpa using hys⟩
    rw [h] at hm;cases hm
   | cons x r=>exact ⟨x,r,rfl⟩
  have hx0:(cH s L)[0]?=some x:=by rw [hxr];rfl
  have hxm:x∈L:=(iK (f:=fun x:Ac=>x.s) (k:=s) (show x∈cH s L by rw [hxr];exact List.mem_cons_self ..)).1
  have hlen:0<(cH s L).length:=by rw [hxr];simp
  have hso:=ho s
  rw [CS hxr]
  generalize cH s L=ol at *
  obtain ⟨⟨xs,xn,xl,xd⟩,_⟩:=hA.2.2.2 x hxm
  have CP:=fun w hr=>copied x.s x.b x.l x.a x.n x.c w xs xn hr xl
  have hxF:HB x∈kT g o L++dm a n L:=List.mem_append_right _ (.tail _ (List.mem_map.2 ⟨x,hxm,rfl⟩))
  show Tree.aD _ _ _ (fun e w'=>∃i:One,Sl i.1 x.l.length i.2∧dy w w' e (acc x.s x.b i.1 x.l.length i.2) [ay (pt i.1 x.l.length) (ah x.l)]) _ _
  rw [← xn]
  conv=>arg 5;whnf
  refine bk (fun h=>by have h2:((ol.length:Int)==0)=true:=h;rw [beq_iff_eq] at h2;omega) (fun h=>?_)
  conv=>arg 5;whnf
  refine ai ⟨by omega,by show (0:Int)<(ol.length:Int);omega,hso.some hlen⟩ ?_
  conv=>arg 5;whnf
  refine C9 DO.aq (vs:=x.cs) (sz:=3) (k:=0) rfl rfl hmf hlen (hso.some hlen) (fQ hx0) rfl ?_
  conv=>arg 5;whnf
  refine nv (f:=165) (n:=x.n) (v:=fun a1 c1=>acc x.s x.b a1 x.n c1) (xs:=ah x.l) rfl (by kernel_rfl) (fun β ρ w' hM'=>CP w' (hM'.at_ hxF)) (fun y c_y h_y f_y=>?_)
  conv=>arg 5;whnf
  refine av fun β ρ w' hM'=>⟨(y,c_y),h_y,rfl,hM'.below,fun φ hφ g' hg'=>?_⟩
  simp only [List.mem_singleton] at hφ
  subst hφ
  exact ⟨f_y g' hg',hM'.at_ (.head _) g' hg'⟩
 ·have hlk:(ez (gJ (aI L) fun s=>.slice (o s).1 (cH s L).length (o s).2) s).getD (.slice none 0 0)=.slice none 0 0:=by rw [x8,if_neg hs];rfl
  rw [show (if false=true then Value.tuple #[(ez (gJ (aI L) fun s=>.slice (o s).1 (cH s L).length (o s).2) s).getD (.slice none 0 0),.bool (ez (gJ (aI L) fun s=>.slice (o s).1 (cH s L).length (o s).2) s).isSome] else (ez (gJ (aI L) fun s=>.slice (o s).1 (cH s L).length (o s).2) s).getD (.slice none 0 0))=.slice none 0 0 from hlk,Fm (uB hs)]
  conv=>arg 5;whnf
  exact av fun β ρ w' hM'=>⟨(none,0),⟨Nat.le_refl _,Nat.zero_le _,fun _=>⟨rfl,rfl⟩⟩,rfl,hM'.below,fun φ hφ g' hg'=>by simp only [List.mem_singleton] at hφ;subst hφ;cases hg'⟩
end Go.Proofs.YtdbjakibneeeiaaGreatDoor.ax
namespace Go.Proofs.YtdbjakibneeeiaaGreatDoor.ax
open Go.RowKit Sx txn queue aL
structure yg where
 a:Option Addr
 n:Nat
 c:Nat
 L:List Ac
 v:Int
def yg.cs (q:yg):List Value:=[.slice q.a q.n q.c,.int .i64 q.v]
def si (S:List yg):List Value:=S.flatMap yg.cs
def Dr {S:List yg} {k:Nat} {q:yg} (h:S[k]?=some q):∀(j:Nat) (u:Value),q.cs[j]?=some u→(si S)[k*2+j]?=some u:=by
 induction S generalizing k with
 | nil=>simp at h
 | cons y S ih=>
  intro j u hu
  unfold si
  rw [List.flatMap_cons]
  cases k with
  | zero=>
   simp at h;subst h
   have hj:j<y.cs.length:=(List.getElem?_eq_some_iff.1 hu).1
   rw [Nat.zero_mul,Nat.zero_add,List.getElem?_append_left hj];exact hu
  | succ k=>
   have:=ih (by simpa using h) j u hu
   rw [show (k+1)*2+j=y.cs.length+(k*2+j) from by show _=2+_;omega,List.getElem?_append_right (Nat.le_add_right _ _),Nat.add_sub_cancel_left]
   exact this
end Go.Proofs.YtdbjakibneeeiaaGreatDoor.ax
namespace Go.Proofs.YtdbjakibneeeiaaGreatDoor.mL
open Go.RowKit
def fE (s n:Int):Int:=if 0≤s∧s≤255∧1≤n∧n≤8 then xN [UInt8.ofNat s.toNat] % n else -1
def DW (s n:Int) (w:World) (h:s<0∨255<s∨n<1∨8<n) :
  Calls Tryz.prog 132 #[.int .i64 s,.int .i64 n] w fun e w'=>e=.returned (.int .i64 (-1))∧w=w':=by
 have h':s<0∨(0≤s∧255<s)∨(0≤s∧s≤255∧n<1)∨(0≤s∧s≤255∧1≤n∧8<n):=by omega
 clear h
 rcases h' with h | ⟨h,h1⟩ | ⟨h,h1,h2⟩ | ⟨h,h1,h2,h3⟩
 all_goals
  go_enter Tryz.func132,Tryz.ntmps132
  go_wp2_with fail
  go_ret
  exact ⟨rfl,rfl⟩
def tD (b:UInt8) (w:World) :
  (convert 169 9 (.slice (some ⟨w.heap.size,0,none⟩) 1 1)).run Tryz.prog (w.alloc (.cells #[.int .u8 b.toNat] 5 (0,0)))=.ok (.string ⟨#[b]⟩) (w.alloc (.cells #[.int .u8 b.toNat] 5 (0,0))):=
 mg (l:=[b]) (t:=5) (by show (w.heap.push _)[w.heap.size]?=_;simp [cellsOf]) 1 1 rfl
def FC (b:UInt8) (n:Int) (w:World) (h0:1≤n) (h1:n≤8) :
  Calls Tryz.prog 132 #[.int .i64 b.toNat,.int .i64 n] w fun e w'=>e=.returned (.int .i64 (xN [b] % n))∧Below w.heap.size w w':=by
 have hb:(b.toNat:Int)≤255:=by have:=b.toNat_lt;omega
 have hv:=tD b w
 have hd:=uA 14695981039346656037 b
 have hof':xN [b]=hstep 14695981039346656037 b:=rfl
 have ho:∀w,Calls Tryz.prog 158 #[.string ⟨#[b]⟩] w fun e w'=>e=.returned (.int .u64 (xN [b]))∧w=w':=fun w=>EL ⟨#[b]⟩ w (by show 1≤2 ^ 63 - 1;decide)
 have HO:=Lib.hid ho
 rw [hof'] at HO ⊢
 clear ho hof'
 generalize hstep 14695981039346656037 b=v at hd HO ⊢
 have c2:v % n≤9223372036854775807:=by have:=Int.emod_lt_of_pos v (show 0<n by omega);omega
 have c3:0≤v % n:=Int.emod_nonneg _ (by omega)
 go_enter Tryz.func132,Tryz.ntmps132
 go_wp2_with fail
 refine (HO.out _).mono ?_
 rintro e w' ⟨rfl,rfl⟩
 go_wp2_with fail
 go_ret
 exact ⟨rfl,(Below.refl _ _).alloc (Nat.le_refl _) _⟩
def CH (s n:Int) (w:World) :
  Calls Tryz.prog 132 #[.int .i64 s,.int .i64 n] w fun e w'=>e=.returned (.int .i64 (fE s n))∧Below w.heap.size w w':=by
 unfold fE
 by_cases h:0≤s∧s≤255∧1≤n∧n≤8
 ·rw [if_pos h]
  obtain ⟨h0,h1,h2,h3⟩:=h
  have e:s=((UInt8.ofNat s.toNat).toNat:Int):=by
   rw [UInt8.toNat_ofNat']
   omega
  generalize UInt8.ofNat s.toNat=b at e ⊢
  subst e
  exact FC b n w h2 h3
 ·rw [if_neg h]
  exact (DW s n w (by omega)).mono fun e w' ⟨he,hw⟩=>⟨he,hw▸Below.refl _ _⟩
end Go.Proofs.YtdbjakibneeeiaaGreatDoor.mL
namespace Go.Proofs.YtdbjakibneeeiaaGreatDoor.ax
open Go.RowKit Sx txn queue aL
abbrev T1:Tx:=⟨3,1,5,9,1,ByteArray.empty⟩
def Jf:Sl none 0 0:=⟨Nat.le_refl _,Nat.zero_le _,fun _=>⟨rfl,rfl⟩⟩
def d1:∀t∈[T1],t.d.size≤maxLen:=by intro t ht;simp only [List.mem_singleton] at ht;subst ht;exact Nat.zero_le _
end Go.Proofs.YtdbjakibneeeiaaGreatDoor.ax
