/- Layer 11 (shard): lists in the order of a key. -/
import Derived.WalkKit
import Derived.Test.YtdbjakibneeeiaaGreatDoorKGreedyAll
import Derived.Test.YtdbjakibneeeiaaGreatDoorKG27TkEnv
import Derived.Test.YtdbjakibneeeiaaGreatDoorKTxnId
import Derived.Test.YtdbjakibneeeiaaGreatDoorKG22HeapAll
import Derived.Test.YtdbjakibneeeiaaGreatDoorKG3SxB
import Derived.Test.YtdbjakibneeeiaaGreatDoorKFnvT
import Derived.Lib.Hide
import Derived.Test.YtdbjakibneeeiaaGreatDoorKG18QueueOpen
set_option linter.all false
set_option maxHeartbeats 4000000
set_option maxRecDepth 100000
namespace Go.Proofs.YtdbjakibneeeiaaGreatDoor.shard
section
variable {α β : Type}
def ins (f:α→Int) (x:α):List α→List α
 | []=>[x]
 | y::l=>if f x<f y then x::y::l else y::ins f x l
theorem ins_perm (f:α→Int) (x:α) (l:List α):(ins f x l).Perm (x::l):=by
 induction l with
 | nil=>exact List.Perm.refl _
 | cons y l ih=>
  unfold ins
  split
  ·exact List.Perm.refl _
  ·exact (ih.cons y).trans (List.Perm.swap x y l)
def ofK (f:α→Int) (k:Int) (l:List α):List α:=l.filter (fun x=>f x==k)
theorem ofK_none {f:α→Int} {k:Int} {l:List α} (h:∀x∈l,f x≠k):ofK f k l=[]:=by
 unfold ofK
 rw [List.filter_eq_nil_iff]
 intro x hx
 simpa using h x hx
theorem ofK_app (f:α→Int) (k:Int) (l r:List α):ofK f k (l++r)=ofK f k l++ofK f k r:=List.filter_append ..
theorem ofK_one (f:α→Int) (k:Int) (x:α):ofK f k [x]=if f x=k then [x] else []:=by
 unfold ofK
 by_cases h:f x=k <;> simp [h]
theorem ofK_mem {f:α→Int} {k:Int} {l:List α} {x:α} (h:x∈ofK f k l):x∈l∧f x=k:=by
 unfold ofK at h
 rw [List.mem_filter] at h
 exact ⟨h.1,by simpa using h.2⟩
end
end Go.Proofs.YtdbjakibneeeiaaGreatDoor.shard
namespace Go.Proofs.YtdbjakibneeeiaaGreatDoor.shard
open Go.RowKit Sx txn queue greedy
section
variable {E : Sx.Env} {P : Program} {W : World} {G : Option Nat} {Q : Ending → World → Prop} {ds : List Deferred}
theorem readG (hE:E.Ok P) {ty:TypeId} {ad:Option Addr} {xs vs:List Value} {k sz n:Nat} {m:M} {K:Value→Tree} {a:Addr} (hty:lk E.agg ty=some (some sz)) (hl:vs.length=sz) (hm:rowF (pt ad n) xs∈m.facts) (hk:k<n) (ha:ad.isSome=true)
  (hx:∀(j:Nat) (u:Value),vs[j]?=some u→xs[k*sz+j]?=some u) (haddr:a=(ad.getD ⟨0,0,none⟩).add (k*sz)) (h:(K (.agg vs.toArray)).wpD P W G Q ds):(Tree.load ty a m K).wpD P W G Q ds:=by
 rw [pt_pos hk] at hm
 refine ⟨.agg vs.toArray,fun β ρ w hM=>?_,h⟩
 cases ad with
 | none=>cases ha
 | some ad=>
  have:=hE.aggN ty sz hty a w vs hl (fun j u hu=>by
   have hc:=(hM.at_ hm).cell (hx j u hu)
   rw [haddr]
   simp only [Option.getD_some]
   obtain ⟨b,o,sp⟩:=ad
   unfold Addr.add at hc ⊢
   by_cases h1:k*sz=0 <;> by_cases h2:j=0 <;> simp_all [Nat.add_assoc])
  rw [this]
end
theorem copied (s b:Int) (l:List Tx) (a:Option Addr) (n c:Nat) (w:World) (hs:Sl a n c) (hn:n=l.length) (hrow:At w (pt a n) (cellsL l)) (hl:l.length≤1000000) :
  Calls Tryz.prog 165 (List.toArray [acc s b a n c]) w fun e w'=>∃i:One,Sl i.1 n i.2∧Gives w w' e (acc s b i.1 n i.2) [rowF (pt i.1 n) (cellsL l)]:=by
 refine calls_of_exec Sxs.env_ok.keeps Tryz.func165 rfl [] (schedQ_ok _ _ (by kernel_rfl)) [rowF (pt a n) (cellsL l)] (at1 hrow) ?_
 conv=>arg 5;whnf
 refine meetM n (cellsL l) rfl (by kernel_rfl) (fun β ρ w' hM'=>clone l a n c w' hs hn (hM'.at_ (.head _)) hl) ?_
 conv=>arg 5;whnf
 refine wp_share fun u c_u h_u f_u=>?_
 conv=>arg 5;whnf
 refine wp_back fun β ρ w' hM'=>⟨(u,c_u),h_u,rfl,hM'.below,fun φ hφ=>?_⟩
 simp only [List.mem_singleton] at hφ
 subst hφ
 exact giveF _ hM' (.head _) f_u
def shV (a:Option Addr) (n c:Nat) (v:Int):Value:=.agg #[.slice a n c,.int .i64 v]
end Go.Proofs.YtdbjakibneeeiaaGreatDoor.shard
namespace Go.Proofs.YtdbjakibneeeiaaGreatDoor.shard
open Go.RowKit Sx txn queue greedy
theorem cellsA_app (l r:List Ac):cellsA (l++r)=cellsA l++cellsA r:=by simp [cellsA]
theorem cellsA_one (l:List Ac):∀u∈cellsA l,u.oneCell'=true:=by
 intro u hu
 simp only [cellsA,List.mem_flatMap,Ac.cs] at hu
 obtain ⟨x,_,hx⟩:=hu
 simp at hx
 rcases hx with rfl | rfl | rfl <;> rfl
theorem cellsA_pos {l:List Ac} {j:Nat} {u:Value} (h:(cellsA l)[j]?=some u):0<l.length:=by
 cases l with
 | nil=>simp [cellsA] at h
 | cons x l=>simp
end Go.Proofs.YtdbjakibneeeiaaGreatDoor.shard
namespace Go.Proofs.YtdbjakibneeeiaaGreatDoor.shard
open Go.RowKit Sx txn queue greedy
theorem at_any {w:World} {a:Option Addr} {xs:List Value} (n:Nat) (h:At w a xs):At w (pt a n) xs:=by
 unfold Sx.pt
 split
 ·exact fun g hg=>by cases hg
 ·exact h
abbrev PA:=Int×Int×List Tx
def acP (x:Ac):PA:=(x.s,x.b,x.l)
end Go.Proofs.YtdbjakibneeeiaaGreatDoor.shard
namespace Go.Proofs.YtdbjakibneeeiaaGreatDoor.shard
open Go.RowKit Sx txn queue greedy
section
variable {P : Program} {W : World} {G : Option Nat} {Q : Ending → World → Prop} {ds : List Deferred}
theorem op_appendN {E:Env} (hE:E.Ok P) {q:Option (List Fact)} {o:Oper} {m:M} {t:List T} {k:M→List T→T→Tree} {x y:Operand} {ty e:TypeId} {size bytes n b j:Nat} {v:Value} {xs news:List Value} {te:TypeId} (fs:List Fact)
  (ho:o.op=.call ⟨.builtin .append,#[x,y],#[ty,ty]⟩) (hrow:lk E.row ty=some (e,size,bytes)) (hx:ev t x=.v v) (hy:ev t y=.s b j) (hb:m.own[b]?=some (some (news.map T.v,te))) (hj:news.length=j*size)
  (hFV:(v=.slice none 0 0∧n=0)∨(ownF v e size n xs∈m.facts∧TV W v n)) (hl:xs.length=n*size) (h63:n+j≤maxLen) (hby:(n+j)*bytes≤140737488355328)
  (hq:∀F,q=some F→v=.slice none 0 0∨∃ψ∈F,ψ.g=v.ownBlock) (hfs:∀ψ∈fs,ψ∈m.facts∧∀g,ψ.g=some g→v.ownBlock≠some g)
  (h:∀v',TV W v' (n+j)→(∀ψ∈fs,∀g,ψ.g=some g→v'.ownBlock≠some g)→(k { m with facts:=ownF v' e size (n+j) (xs++news)::fs } t (.v v')).wpD P W G Q ds):(Tree.op q o m t k).wpD P W G Q ds:=by
 intro β ρ a w hm hr K Q' hK
 obtain ⟨dst,op,ty',pos,after,guard⟩:=o
 simp only at ho
 subst ho
 have h1:=hr.ev x
 rw [hx] at h1
 have h1:a.eval x=v:=h1
 have h2:=hr.ev y
 rw [hy] at h2
 obtain ⟨g2,hg2,h2⟩:=h2
 obtain ⟨g3,l,hg3,hw3,hr3,ho3⟩:=hm.own b _ te hb
 rw [hg2] at hg3
 cases hg3
 have hr3:=vals_eqA hr3
 subst hr3
 obtain ⟨ht,i,z,hi,hz,hsize,hbb,hzs,hsz⟩:=hE.row ty e size bytes hrow
 have hown:w.ownsRow W.heap.size e size v n xs:=hFV.elim (fun h=>⟨hl,.inl h⟩) fun h=>own_of_fact hm h.1 h.2 hl
 obtain ⟨v',w',hrun,hown',hgr,hwhere⟩:=append_run (P:=P) (w:=w) ty ty' e i z size bytes ht hi hz hsize hbb hzs hsz hown (some ⟨g2,0,none⟩) j j l hj (fun a0 ha0 jj u hu=>by
  cases ha0
  simp only [add_mk,World.cell?]
  rw [hw3]
  simpa using hu) ho3 (fun hn=>by cases hn) h63 hby hm.grown.size
 unfold Oper.wp
 have:(execOp a.eval ⟨dst,.call ⟨.builtin .append,#[x,y],#[ty,ty]⟩,ty',pos,after,guard⟩).run P w=.ok (.value v') w':=by
  simp [execOp,resolve,invoke,builtin,h1,h2,hrun]
 rw [this]
 have hTV:=tv_of_own hown'
 have hfo:=fact_of_own hown'
 have hnew:∀{w0:World},w0=w→∀g,(ownF v' e size (n+j) (xs++l)).g=some g→v'.ownBlock=some w.heap.size→Apart m β ρ g:=fun _ g hg he=>by
  have e1:g=w.heap.size:=by
   have:v'.ownBlock=some g:=hg
   rw [he] at this
   exact (Option.some.inj this).symm
  exact hm.apart (.inr (.inl (by omega)))
 have hap:∀ψ∈fs,∀g,ψ.g=some g→v'.ownBlock≠some g:=fun ψ hψ g hg e=>by
  rcases hwhere with he | ⟨he,_⟩
  ·exact (hfs ψ hψ).2 g hg (he▸e)
  ·obtain ⟨_,o,ho,_⟩:=hm.fact ψ (hfs ψ hψ).1 g hg
   have h8:=(Array.getElem?_eq_some_iff.1 ho).1
   rw [he] at e
   cases e
   omega
 have hV2:(v=.slice none 0 0∧n=0)∨∃g cap,v=.slice (some ⟨g,0,none⟩) n cap∧W.heap.size≤g∧ownF v e size n xs∈m.facts:=by
  rcases hFV with h | ⟨h,h3 | ⟨g,cap,h4,h5⟩⟩
  ·exact .inl h
  ·exact .inl h3
  ·exact .inr ⟨g,cap,h4,h5,h⟩
 rcases hV2 with ⟨rfl,hn⟩ | ⟨g,cap,rfl,hgW,hF⟩
 ·have hbel:Below w.heap.size w w':=⟨hgr.os,hgr.tape,hgr.output,hgr.size,fun k hk=>hgr.block k hk (by simp [Value.ownBlock])⟩
  refine hK _ t (.v v') β ρ w' v' (h v' hTV hap) ?_ hr rfl (fun F hq=>⟨rfl,rfl,.inl hbel⟩)
  have h5:Mem W G { m with facts:=fs } β ρ w':=by
   have:=hm.grow hbel
   exact ⟨this.grown,this.nd,this.bl,this.lo,this.own,this.rl,this.row,this.rb,this.rows,fun φ hφ=>this.fact φ (hfs φ hφ).1⟩
  refine h5.learn [ownF v' e size (n+j) (xs++l)] fun φ hφ g hg=>?_
  simp only [List.mem_singleton] at hφ
  subst hφ
  refine ⟨?_,(hfo g hg).2⟩
  rcases hwhere with he | ⟨he,_⟩
  ·have h7:v'.ownBlock=some g:=hg
   rw [he] at h7
   cases h7
  ·exact hnew rfl g hg he
 ·refine hK _ t (.v v') β ρ w' v' (h v' hTV hap) ?_ hr rfl (fun F hF'=>⟨rfl,rfl,.inr ?_⟩)
  ·rcases hwhere with he | ⟨he,_⟩
   ·refine hm.turn hF rfl (.inl hgW) hgr fun ψ hψ=>?_
    rcases List.mem_cons.1 hψ with rfl | hψ
    ·exact .inr ⟨he,(hfo g he).2⟩
    ·refine .inl ⟨(hfs ψ hψ).1,fun hg=>(hfs ψ hψ).2 g hg rfl⟩
   ·have h5:Mem W G { m with facts:=fs } β ρ w':=hm.turn hF rfl (.inl hgW) hgr fun ψ hψ=>.inl ⟨(hfs ψ hψ).1,fun hg=>(hfs ψ hψ).2 g hg rfl⟩
    refine h5.learn [ownF v' e size (n+j) (xs++l)] fun φ hφ g hg=>?_
    simp only [List.mem_singleton] at hφ
    subst hφ
    exact ⟨hnew rfl g hg he,(hfo g hg).2⟩
  ·rcases hq F hF' with h | ⟨ψ,h1,h2⟩
   ·cases h
   ·exact ⟨ψ,h1,g,h2,.inl hgW,hgr⟩
end
abbrev ofS (s:Int) (L:List Ac):List Ac:=ofK (fun x:Ac=>x.s) s L
def keyS (ks:List Int) (x:Ac):List Int:=if x.s∈ks then ks else ks++[x.s]
def keysP (L:List Ac):List Int:=L.foldl keyS []
theorem keysP_take {L:List Ac} {k:Nat} {x:Ac} (h:L[k]?=some x):keysP (L.take (k+1))=keyS (keysP (L.take k)) x:=by unfold keysP;rw [List.take_add_one,h,List.foldl_append];rfl
theorem keyS_nodup {ks:List Int} (x:Ac) (h:ks.Nodup):(keyS ks x).Nodup:=by
 unfold keyS
 split
 ·exact h
 ·rename_i hx
  rw [List.nodup_append]
  exact ⟨h,by simp,fun a ha b hb=>by simp at hb;subst hb;exact fun e=>hx (e▸ha)⟩
theorem keysF_nodup:∀(L:List Ac) (ks:List Int),ks.Nodup→(L.foldl keyS ks).Nodup
 | [],ks,h=>h
 | x::L,ks,h=>keysF_nodup L _ (keyS_nodup x h)
theorem keysP_nodup (L:List Ac):(keysP L).Nodup:=keysF_nodup L [] List.nodup_nil
theorem keyS_mem (ks:List Int) (x:Ac) (s:Int):s∈keyS ks x↔s∈ks∨s=x.s:=by
 unfold keyS
 split
 ·rename_i hx
  exact ⟨.inl,fun h=>h.elim id fun e=>e▸hx⟩
 ·simp
theorem keysF_mem:∀(L:List Ac) (ks:List Int) (s:Int),s∈L.foldl keyS ks↔s∈ks∨∃x∈L,x.s=s
 | [],ks,s=>by simp
 | x::L,ks,s=>by
  rw [List.foldl_cons,keysF_mem L,keyS_mem]
  simp only [List.mem_cons,exists_eq_or_imp]
  constructor
  ·rintro ((h | h) | h);exact .inl h;exact .inr (.inl h.symm);exact .inr (.inr h)
  ·rintro (h | h | h);exact .inl (.inl h);exact .inl (.inr h.symm);exact .inr h
theorem keysP_mem (L:List Ac) (s:Int):s∈keysP L↔∃x∈L,x.s=s:=by unfold keysP;rw [keysF_mem];simp
theorem ofS_none {L:List Ac} {s:Int} (h:s∉keysP L):ofS s L=[]:=ofK_none fun x hx e=>h ((keysP_mem L s).2 ⟨x,hx,e⟩)
theorem ofS_take {L:List Ac} {k:Nat} {x:Ac} (h:L[k]?=some x) (s:Int):ofS s (L.take (k+1))=ofS s (L.take k)++(if x.s=s then [x] else []):=by
 unfold ofS
 rw [List.take_add_one,h,ofK_app]
 show _++ofK _ s [x]=_
 rw [ofK_one]
theorem ofS_le (s:Int) (L:List Ac):(ofS s L).length≤L.length:=List.length_filter_le ..
def upd (f:Int→Value) (s:Int) (v:Value):Int→Value:=fun y=>if y=s then v else f y
def bkM (ks:List Int) (f:Int→Value):List (Int×Value):=ks.map fun s=>(s,f s)
theorem lk_bkM (ks:List Int) (f:Int→Value) (s:Int):lkM (bkM ks f) s=if s∈ks then some (f s) else none:=by
 induction ks with
 | nil=>rfl
 | cons k ks ih=>
  show lkM ((k,f k)::bkM ks f) s=_
  rw [lkM_cons,ih]
  by_cases h:k=s
  ·subst h;simp
  ·simp [h,Ne.symm h]
theorem bkM_upd {ks:List Int} {f:Int→Value} {s:Int} {v:Value} (h:s∉ks):bkM ks (upd f s v)=bkM ks f:=by
 unfold bkM
 exact List.map_congr_left fun k hk=>by
  have hks:k≠s:=fun e=>h (by rw [← e];exact hk)
  simp [upd,hks]
theorem put_bkM (x:Ac) (f:Int→Value) (v:Value):∀{ks:List Int},ks.Nodup→putM (bkM ks f) x.s v=bkM (keyS ks x) (upd f x.s v)
 | [],_=>by simp [bkM,putM,keyS,upd]
 | k::ks,h=>by
  rw [List.nodup_cons] at h
  show putM ((k,f k)::bkM ks f) x.s v=_
  unfold putM
  by_cases hk:k=x.s
  ·rw [if_pos hk]
   have e1:keyS (k::ks) x=k::ks:=by unfold keyS;rw [if_pos (by rw [hk];exact List.mem_cons_self ..)]
   rw [e1]
   show _=(k,upd f x.s v k)::bkM ks (upd f x.s v)
   rw [bkM_upd (by rw [← hk];exact h.1),hk]
   simp [upd]
  ·rw [if_neg hk,put_bkM x f v h.2]
   have e1:keyS (k::ks) x=k::keyS ks x:=by
    unfold keyS
    by_cases hm:x.s∈ks
    ·rw [if_pos hm,if_pos (List.mem_cons_of_mem _ hm)]
    ·rw [if_neg hm,if_neg (by simp [hm];exact fun e=>hk e.symm)];rfl
   rw [e1]
   show _=(k,upd f x.s v k)::bkM (keyS ks x) (upd f x.s v)
   have e2:upd f x.s v k=f k:=by unfold upd;rw [if_neg hk]
   rw [e2]
def bkO (f:Int→Value) (L:List Ac) (s:Int):Fact:=ownF (f s) 90 3 (ofS s L).length (cellsA (ofS s L))
structure Bk (w:World) (g:Nat) (f:Int→Value) (L:List Ac):Prop where
 tv:∀s,TV w (f s) (ofS s L).length
 nil:∀s,s∉keysP L→f s=.slice none 0 0
 apart:∀s s',s≠s'→∀b,(f s).ownBlock=some b→(f s').ownBlock≠some b
 lo:∀s b,(f s).ownBlock=some b→w.heap.size≤b∧b≠g
theorem Bk.start (w:World) (g:Nat):Bk w g (fun _=>.slice none 0 0) []:=⟨fun s=>.inl ⟨rfl,rfl⟩,fun s _=>rfl,fun s s' _ b h=>(by cases h),fun s b h=>(by cases h)⟩
theorem Bk.step {w:World} {g:Nat} {f:Int→Value} {L:List Ac} {k:Nat} {x:Ac} {v:Value} (h:Bk w g f (L.take k)) (hx:L[k]?=some x) (hv:TV w v ((ofS x.s (L.take k)).length+1)) (hap:∀s,s≠x.s→∀b,(f s).ownBlock=some b→v.ownBlock≠some b) (hg:v.ownBlock≠some g):Bk w g (upd f x.s v) (L.take (k+1)):=by
 have hvb:∀b,v.ownBlock=some b→w.heap.size≤b:=fun b hb=>by
  rcases hv with ⟨rfl,_⟩ | ⟨g',cap,rfl,h'⟩
  ·cases hb
  ·cases hb;exact h'
 constructor
 ·intro s
  rw [ofS_take hx]
  by_cases hs:x.s=s
  ·subst hs
   simp only [upd,if_true]
   rw [List.length_append];exact hv
  ·rw [if_neg hs,List.append_nil]
   unfold upd
   rw [if_neg (Ne.symm hs)]
   exact h.tv s
 ·intro s hs
  rw [keysP_take hx,keyS_mem,not_or] at hs
  unfold upd
  rw [if_neg hs.2]
  exact h.nil s hs.1
 ·intro s s' hss b hb
  unfold upd at *
  by_cases h1:s=x.s
  ·rw [if_pos h1] at hb
   have h2:s'≠x.s:=fun e=>hss (h1.trans e.symm)
   rw [if_neg h2]
   exact fun e=>hap s' h2 b e hb
  ·rw [if_neg h1] at hb
   by_cases h2:s'=x.s
   ·rw [if_pos h2];exact hap s h1 b hb
   ·rw [if_neg h2];exact h.apart s s' hss b hb
 ·intro s b hb
  unfold upd at hb
  by_cases h1:s=x.s
  ·rw [if_pos h1] at hb
   exact ⟨hvb b hb,fun e=>hg (e▸hb)⟩
  ·rw [if_neg h1] at hb
   exact h.lo s b hb
def bkF (ks:List Int) (f:Int→Value) (L:List Ac):List Fact:=ks.map (bkO f L)
def bookF (g:Nat) (f:Int→One) (L:List Ac):List Fact:=mapF g (bkM (keysP L) fun s=>.slice (f s).1 (ofS s L).length (f s).2)::(keysP L).map fun s=>rowF (pt (f s).1 (ofS s L).length) (cellsA (ofS s L))
theorem bookOf (L:List Ac) (a:Option Addr) (n c:Nat) (w:World) (hA:Acs w a n c L) (h1000:n≤1000000) :
  Calls Tryz.prog 164 (List.toArray [.slice a n c]) w fun e w'=>∃i:Nat×(Int→One),(∀s,Sl (i.2 s).1 (ofS s L).length (i.2 s).2)∧Gives w w' e (.map (some i.1)) (bookF i.1 i.2 L):=by
 have hs:=hA.1
 have hn:=hA.2.1
 have hn63:=hs.le
 refine calls_of_exec ((Sxs.env_ok.keeps.open_ [1000000] true).lead_ 1) Tryz.func164 rfl [(5,(lineT [0,1,2,3,4,5,6,7,8,9] [10],[]))] (schedQ_ok _ _ (by kernel_rfl)) (acsF a n L) hA.facts ?_
 conv=>arg 5;whnf
 refine op_makeMap rfl (fun g hg=>?_)
 have hgA:∀ψ∈acsF a n L,ψ.g≠some g:=fun ψ hψ e=>by
  obtain ⟨o,ho,_⟩:=hA.facts ψ hψ g e
  have:=(Array.getElem?_eq_some_iff.1 ho).1
  omega
 conv=>arg 5;whnf
 refine loop_ruleE ((Sxs.env_ok.keeps.open_ [1000000] true).lead_ 1) [(5,(lineT [0,1,2,3,4,5,6,7,8,9] [10],[]))] (schedQ_ok _ _ (by kernel_rfl)) [0,0] (fun i:Nat×(Int→Value)=>i.1≤n∧Bk w g i.2 (L.take i.1)) (fun i=>(⟨[],[],mapF g (bkM (keysP (L.take i.1)) i.2)::(bkF (keysP (L.take i.1)) i.2 (L.take i.1)++acsF a n L)⟩,[.any,.any,.any,.v (.map (some g)),.any,.any,.any,.v (.slice a n c),.v (.int .i64 n),.v (.int .i64 i.1),.any,.any,.any,.any,.any,.any,.any,.any,.any,.any,.any,.any,.any,.any,.any])) (fun i=>n - i.1) (0,fun _=>.slice none 0 0) ⟨Nat.zero_le _,Bk.start w g⟩ ⟨by repeat' first | exact trivial | refine ⟨.inl rfl,?_⟩ | refine ⟨.inr rfl,?_⟩,⟨by repeat' first | exact trivial | refine ⟨.inl rfl,?_⟩ | refine ⟨.inr rfl,?_⟩,by repeat' first | exact trivial | refine ⟨.inl rfl,?_⟩ | refine ⟨.inr rfl,?_⟩,fun _ h=>h⟩,rfl⟩ ?_
 rintro ⟨k,f⟩ ⟨hk,hB⟩
 have hk:k≤n:=hk
 have hB:Bk w g f (L.take k):=hB
 conv=>arg 5;whnf
 refine wp_br (fun h1=>?_) (fun h1=>?_)
 ·have hlt:k<n:=by have h3:=of_decide_eq_true (show decide ((k:Int)<(n:Int))=true from h1);omega
  obtain ⟨x,hx⟩:∃x,L[k]?=some x:=⟨_,List.getElem?_eq_getElem (by omega)⟩
  have hxm:x∈L:=List.mem_of_getElem? hx
  have hnd:=keysP_nodup (L.take k)
  have hlk:(lkM (bkM (keysP (L.take k)) f) x.s).getD (.slice none 0 0)=f x.s:=by
   rw [lk_bkM]
   by_cases h:x.s∈keysP (L.take k)
   ·rw [if_pos h];rfl
   ·rw [if_neg h,hB.nil _ h];rfl
  have hsep:∀φ∈[mapF g (bkM (keysP (L.take k)) f)],∀ψ∈bkF (keysP (L.take k)) f (L.take k)++acsF a n L,∀g',ψ.g=some g'→φ.g≠some g':=fun φ hφ ψ hψ g' hg' e=>by
   simp only [List.mem_singleton] at hφ
   subst hφ
   cases e
   rcases List.mem_append.1 hψ with hψ | hψ
   ·obtain ⟨s',hs',rfl⟩:=List.mem_map.1 hψ
    exact (hB.lo s' g hg').2 rfl
   ·exact hgA ψ hψ hg'
  have hQ:f x.s=.slice none 0 0∨∃ψ∈bkF (keysP (L.take k)) f (L.take k)++acsF a n L,ψ.g=(f x.s).ownBlock:=by
   by_cases h:x.s∈keysP (L.take k)
   ·exact .inr ⟨_,List.mem_append_left _ (List.mem_map.2 ⟨x.s,h,rfl⟩),rfl⟩
   ·exact .inl (hB.nil _ h)
  conv=>arg 5;whnf
  refine wp_must ⟨by omega,by show (k:Int)<(n:Int);omega,hs.some hlt⟩ ?_
  conv=>arg 5;whnf
  refine readG Sxs.env_ok (vs:=x.cs) (sz:=3) (k:=k) rfl rfl (.tail _ (List.mem_append_right _ (.head _))) hlt (hs.some hlt) (cellsA_at hx) rfl ?_
  conv=>arg 5;whnf
  refine wp_must hsep ?_
  conv=>arg 5;whnf
  refine peek_lookup (z:=.slice none 0 0) (l:=bkM (keysP (L.take k)) f) Tryz.underlying211 Tryz.underlying3 (fun w=>by kernel_rfl) (.head _) ?_
  rw [show (if false=true then Value.tuple #[(lkM (bkM (keysP (L.take k)) f) x.s).getD (.slice none 0 0),.bool (lkM (bkM (keysP (L.take k)) f) x.s).isSome] else (lkM (bkM (keysP (L.take k)) f) x.s).getD (.slice none 0 0))=f x.s from hlk]
  have hol:=ofS_le x.s (L.take k)
  have hkl:(L.take k).length≤k:=by rw [List.length_take];omega
  have hFS:∀ψ∈mapF g (bkM (keysP (L.take k)) f)::(bkF ((keysP (L.take k)).filter (fun s=>s != x.s)) f (L.take k)++acsF a n L),ψ∈mapF g (bkM (keysP (L.take k)) f)::(bkF (keysP (L.take k)) f (L.take k)++acsF a n L)∧∀g',ψ.g=some g'→(f x.s).ownBlock≠some g':=fun ψ hψ=>by
   rcases List.mem_cons.1 hψ with rfl | hψ
   ·exact ⟨.head _,fun g' hg' e=>by cases hg';exact (hB.lo _ _ e).2 rfl⟩
   ·rcases List.mem_append.1 hψ with hψ | hψ
    ·obtain ⟨s',hs',rfl⟩:=List.mem_map.1 hψ
     rw [List.mem_filter] at hs'
     refine ⟨.tail _ (List.mem_append_left _ (List.mem_map.2 ⟨s',hs'.1,rfl⟩)),fun g' hg'=>hB.apart s' x.s (by simpa using hs'.2) g' hg'⟩
    ·refine ⟨.tail _ (List.mem_append_right _ hψ),fun g' hg' e=>?_⟩
     obtain ⟨o,ho,_⟩:=hA.facts ψ hψ g' hg'
     have:=(Array.getElem?_eq_some_iff.1 ho).1
     have:=(hB.lo _ _ e).1
     omega
  have hFV:(f x.s=.slice none 0 0∧(ofS x.s (L.take k)).length=0)∨(ownF (f x.s) 90 3 (ofS x.s (L.take k)).length (cellsA (ofS x.s (L.take k)))∈mapF g (bkM (keysP (L.take k)) f)::(bkF (keysP (L.take k)) f (L.take k)++acsF a n L)∧TV w (f x.s) (ofS x.s (L.take k)).length):=by
   by_cases h:x.s∈keysP (L.take k)
   ·exact .inr ⟨.tail _ (List.mem_append_left _ (List.mem_map.2 ⟨x.s,h,rfl⟩)),hB.tv _⟩
   ·exact .inl ⟨hB.nil _ h,by rw [ofS_none h];rfl⟩
  conv=>arg 5;whnf
  refine op_appendN ((Sxs.env_ok.keeps.open_ [1000000] true).lead_ 1) (v:=f x.s) (n:=(ofS x.s (L.take k)).length) (xs:=cellsA (ofS x.s (L.take k))) (news:=x.cs) (j:=1) (mapF g (bkM (keysP (L.take k)) f)::(bkF ((keysP (L.take k)).filter (fun s=>s != x.s)) f (L.take k)++acsF a n L)) rfl rfl rfl rfl rfl rfl hFV (cellsA_length _) (by show _+1≤maxLen;unfold maxLen;omega) (by show (_+1)*40≤_;omega) (by intro F hF;cases hF;exact hQ) (by exact hFS) (fun v2 hV2 hap=>?_)
  have hv2g:v2.ownBlock≠some g:=hap _ (.head _) g rfl
  have hB2:=hB.step hx hV2 (fun s hs b hb=>by
   by_cases h:s∈keysP (L.take k)
   ·exact hap (bkO f (L.take k) s) (.tail _ (List.mem_append_left _ (List.mem_map.2 ⟨s,List.mem_filter.2 ⟨h,by simpa using hs⟩,rfl⟩))) b hb
   ·rw [hB.nil s h] at hb;cases hb) hv2g
  have eo:ownF v2 90 3 ((ofS x.s (L.take k)).length+1) (cellsA (ofS x.s (L.take k))++x.cs)=bkO (upd f x.s v2) (L.take (k+1)) x.s:=by
   unfold bkO
   rw [ofS_take hx,if_pos rfl,List.length_append,cellsA_append]
   simp [upd]
  have ek:∀s,s≠x.s→bkO (upd f x.s v2) (L.take (k+1)) s=bkO f (L.take k) s:=fun s hs=>by
   unfold bkO
   rw [ofS_take hx,if_neg (Ne.symm hs),List.append_nil]
   simp [upd,hs]
  conv=>arg 5;whnf
  refine op_mapUpdate (g:=g) (l:=bkM (keysP (L.take k)) f) (x:=x.s) (v:=v2) (mapF g (putM (bkM (keysP (L.take k)) f) x.s v2)::ownF v2 90 3 ((ofS x.s (L.take k)).length+1) (cellsA (ofS x.s (L.take k))++x.cs)::(bkF ((keysP (L.take k)).filter (fun s=>s != x.s)) f (L.take k)++acsF a n L)) rfl rfl rfl rfl Tryz.underlying211 Tryz.underlying3 (.tail _ (.head _)) (.inl hg) (fun ψ hψ=>?_) ?_
  ·rcases List.mem_cons.1 hψ with rfl | hψ
   ·exact .inr rfl
   ·rcases List.mem_cons.1 hψ with rfl | hψ
    ·exact .inl ⟨.head _,hv2g⟩
    ·refine .inl ⟨.tail _ (.tail _ hψ),fun e=>?_⟩
     rcases List.mem_append.1 hψ with hψ | hψ
     ·obtain ⟨s',hs',rfl⟩:=List.mem_map.1 hψ
      exact (hB.lo s' g e).2 rfl
     ·exact hgA ψ hψ e
  conv=>arg 5;whnf
  refine wp_must ⟨by show -9223372036854775808≤(k:Int)+1;omega,by show (k:Int)+1≤9223372036854775807;omega⟩ ?_
  conv=>arg 5;whnf
  refine wp_end ⟨(k+1,upd f x.s v2),⟨hlt,hB2⟩,⟨by repeat' first | exact trivial | refine ⟨.inl rfl,?_⟩ | refine ⟨.inr rfl,?_⟩,⟨by repeat' first | exact trivial | refine ⟨.inl rfl,?_⟩ | refine ⟨.inr rfl,?_⟩,by repeat' first | exact trivial | refine ⟨.inl rfl,?_⟩ | refine ⟨.inr rfl,?_⟩,fun φ hφ=>by
    rcases List.mem_cons.1 hφ with rfl | hφ
    ·rw [keysP_take hx,← put_bkM x f v2 hnd];exact .head _
    ·rcases List.mem_append.1 hφ with hφ | hφ
     ·obtain ⟨s',hs',rfl⟩:=List.mem_map.1 hφ
      by_cases h:s'=x.s
      ·subst h;show bkO (upd f x.s v2) (L.take (k+1)) x.s∈_;rw [← eo];exact .tail _ (.head _)
      ·show bkO (upd f x.s v2) (L.take (k+1)) s'∈_
       rw [ek s' h]
       have hs2:s'∈keysP (L.take (k+1)):=hs'
       rw [keysP_take hx,keyS_mem] at hs2
       exact .tail _ (.tail _ (List.mem_append_left _ (List.mem_map.2 ⟨s',List.mem_filter.2 ⟨hs2.resolve_right h,by simpa using h⟩,rfl⟩)))
     ·exact .tail _ (.tail _ (List.mem_append_right _ hφ))⟩,rfl⟩,by show n - (k+1)<n - k;omega⟩
 ·have hkn:k=n:=by have h3:=of_decide_eq_false (show decide ((k:Int)<(n:Int))=false from h1);omega
  have e:L.take k=L:=List.take_of_length_le (by omega)
  rw [e] at hB
  rw [e]
  conv=>arg 5;whnf
  refine wp_back fun β ρ w' hM'=>?_
  have hch:∀s,∃o:One,f s=.slice o.1 (ofS s L).length o.2∧Sl o.1 (ofS s L).length o.2∧(∀ad,o.1=some ad→w.heap.size≤ad.block)∧At w' (pt o.1 (ofS s L).length) (cellsA (ofS s L)):=fun s=>by
   by_cases h:s∈keysP L
   ·obtain ⟨a1,c1,h2,h3,h4,h5⟩:=own_row (own_of_fact hM' (v:=f s) (e:=90) (size:=3) (n:=(ofS s L).length) (xs:=cellsA (ofS s L)) (.tail _ (List.mem_append_left _ (List.mem_map.2 ⟨s,h,rfl⟩))) (hB.tv s) (cellsA_length _))
    exact ⟨(a1,c1),h2,h3,h4,h5⟩
   ·refine ⟨(none,0),?_⟩
    rw [ofS_none h,hB.nil s h]
    exact ⟨rfl,⟨Nat.le_refl _,Nat.zero_le _,fun _=>⟨rfl,rfl⟩⟩,fun _ h=>(by cases h),fun g hg=>(by cases hg)⟩
  obtain ⟨o,ho⟩:=Classical.axiomOfChoice hch
  refine ⟨(g,o),fun s=>(ho s).2.1,rfl,hM'.below,fun φ hφ g' hg'=>?_⟩
  rcases List.mem_cons.1 hφ with rfl | hφ
  ·have em:bkM (keysP L) (fun s=>.slice (o s).1 (ofS s L).length (o s).2)=bkM (keysP L) f:=by
    unfold bkM
    exact List.map_congr_left fun s _=>by show (s,Value.slice (o s).1 (ofS s L).length (o s).2)=(s,f s);rw [← (ho s).1]
   cases hg'
   show _∧∃ob,w'.heap[g]?=some ob∧(mapF g (bkM (keysP L) (fun s=>.slice (o s).1 (ofS s L).length (o s).2))).holds ob
   rw [em]
   exact ⟨hg,(hM'.fact _ (.head _) g rfl).2⟩
  ·obtain ⟨s,hs1,rfl⟩:=List.mem_map.1 hφ
   refine ⟨?_,(ho s).2.2.2 g' hg'⟩
   have h5:=(ho s).2.2.1
   have h6:(pt (o s).1 (ofS s L).length).map (·.block)=some g':=hg'
   unfold pt at h6
   split at h6
   ·cases h6
   ·obtain ⟨ad,had,rfl⟩:=Option.map_eq_some_iff.1 h6
    exact h5 ad had
end Go.Proofs.YtdbjakibneeeiaaGreatDoor.shard
namespace Go.Proofs.YtdbjakibneeeiaaGreatDoor.shard
open Go.RowKit Sx txn queue greedy
theorem ofK_map {α β:Type} (f:α→Int) (g:β→Int) (h:α→β) (hf:∀x,g (h x)=f x) (k:Int) (l:List α):ofK g k (l.map h)=(ofK f k l).map h:=by
 unfold ofK
 rw [List.filter_map]
 congr 1
 exact List.filter_congr fun x _=>by simp [hf]
def getP (P:List PA) (s:Int):PA:=match ofK (fun x:PA=>x.1) s P with | []=>(s,0,[]) | x::_=>x
theorem getP_nil {L:List Ac} {s:Int} (h:ofS s L=[]):getP (L.map acP) s=(s,0,[]):=by
 unfold getP
 rw [ofK_map (fun x:Ac=>x.s) (fun x:PA=>x.1) acP (fun _=>rfl),show ofK (fun x:Ac=>x.s) s L=_ from h]
 rfl
theorem getP_cons {L:List Ac} {s:Int} {x:Ac} {r:List Ac} (h:ofS s L=x::r):getP (L.map acP) s=acP x:=by
 unfold getP
 rw [ofK_map (fun x:Ac=>x.s) (fun x:PA=>x.1) acP (fun _=>rfl),show ofK (fun x:Ac=>x.s) s L=_ from h]
 rfl
section
variable {W : World} {G : Option Nat} {Q : Ending → World → Prop} {ds : List Deferred}
theorem readP1 {ty:TypeId} {a:Option Addr} {n k j:Nat} {ad:Addr} {xs:List Value} {m:M} {K:Value→Tree} (v:Value) (hty:lk env.agg ty=some none) (hm:rowF (pt a n) xs∈m.facts) (hk:k<n) (ha:a.isSome=true) (hv:xs[j]?=some v) (haddr:ad=(a.getD ⟨0,0,none⟩).add j) (h:(K v).wpD Tryz.prog W G Q ds):(Tree.load ty ad m K).wpD Tryz.prog W G Q ds:=by
 obtain ⟨ad',rfl⟩:=Option.isSome_iff_exists.1 ha
 rw [pt_pos hk] at hm
 exact readC v hty hm hv haddr h
end
section
variable {P : Program} {W : World} {Q : Ending → World → Prop} {ds : List Deferred}
theorem meetBk {f:FuncId} {args:List Sx.T} {l:List Value} {m:M} {k:Value→List Fact→Tree} (L:List Ac) (hv:valsOf args=some l) (hc:callable P f=true)
  (hC:∀β ρ w,Mem W none m β ρ w→Calls P f (List.toArray l) w fun e w'=>∃i:Nat×(Int→One),(∀s,Sl (i.2 s).1 (ofS s L).length (i.2 s).2)∧Gives w w' e (.map (some i.1)) (bookF i.1 i.2 L))
  (h:∀(g:Nat) (o:Int→One),(∀s,Sl (o s).1 (ofS s L).length (o s).2)→(k (.map (some g)) (bookF g o L)).wpD P W none Q ds):(Tree.call f args m k).wpD P W none Q ds:=
 meetR (ι:=Nat×(Int→One)) (ok:=fun i=>∀s,Sl (i.2 s).1 (ofS s L).length (i.2 s).2) (v:=fun i=>.map (some i.1)) (fs:=fun i=>bookF i.1 i.2 L) hc (fun β ρ w vs hm hr=>by rw [valsOf_spec _ _ _ hv hr];exact hC β ρ w hm) (fun i hi=>h i.1 i.2 hi)
end
theorem get (v:Int) (L:List Ac) (a:Option Addr) (n c:Nat) (s:Int) (w:World) (hA:Acs w a n c L) (h1000:n≤1000000) :
  Calls Tryz.prog 136 (List.toArray [shV a n c v,.int .i64 s]) w fun e w'=>∃i:One,Sl i.1 (getP (L.map acP) s).2.2.length i.2∧Gives w w' e (acc (getP (L.map acP) s).1 (getP (L.map acP) s).2.1 i.1 (getP (L.map acP) s).2.2.length i.2) [rowF (pt i.1 (getP (L.map acP) s).2.2.length) (cellsL (getP (L.map acP) s).2.2)]:=by
 have hn:=hA.2.1
 refine calls_of_exec Sxs.env_ok.keeps Tryz.func136 rfl [] (schedQ_ok _ _ (by kernel_rfl)) (acsF a n L) hA.facts ?_
 conv=>arg 5;whnf
 refine meetBk (f:=164) L rfl (by kernel_rfl) (fun β ρ w' hM'=>bookOf L a n c w' (Mem.acs hA hM' fun φ hφ=>hφ) h1000) (fun g o ho=>?_)
 conv=>arg 5;whnf
 refine peek_lookup (z:=.slice none 0 0) (l:=bkM (keysP L) fun s=>.slice (o s).1 (ofS s L).length (o s).2) Tryz.underlying211 Tryz.underlying3 (fun w=>by kernel_rfl) (.head _) ?_
 by_cases hs:s∈keysP L
 ·have hlk:(lkM (bkM (keysP L) fun s=>.slice (o s).1 (ofS s L).length (o s).2) s).getD (.slice none 0 0)=.slice (o s).1 (ofS s L).length (o s).2:=by rw [lk_bkM,if_pos hs];rfl
  rw [show (if false=true then Value.tuple #[(lkM (bkM (keysP L) fun s=>.slice (o s).1 (ofS s L).length (o s).2) s).getD (.slice none 0 0),.bool (lkM (bkM (keysP L) fun s=>.slice (o s).1 (ofS s L).length (o s).2) s).isSome] else (lkM (bkM (keysP L) fun s=>.slice (o s).1 (ofS s L).length (o s).2) s).getD (.slice none 0 0))=.slice (o s).1 (ofS s L).length (o s).2 from hlk]
  have hmf:rowF (pt (o s).1 (ofS s L).length) (cellsA (ofS s L))∈bookF g o L++acsF a n L:=List.mem_append_left _ (.tail _ (List.mem_map.2 ⟨s,hs,rfl⟩))
  obtain ⟨x,r,hxr⟩:∃x r,ofS s L=x::r:=by
   obtain ⟨y,hy,hys⟩:=(keysP_mem L s).1 hs
   cases h:ofS s L with
   | nil=>
    have hm:y∈ofS s L:=by unfold ofS ofK;rw [List.mem_filter];exact ⟨hy,by simpa using hys⟩
    rw [h] at hm;cases hm
   | cons x r=>exact ⟨x,r,rfl⟩
  have hx0:(ofS s L)[0]?=some x:=by rw [hxr];rfl
  have hxm:x∈L:=(ofK_mem (f:=fun x:Ac=>x.s) (k:=s) (show x∈ofS s L by rw [hxr];exact List.mem_cons_self ..)).1
  have hlen:0<(ofS s L).length:=by rw [hxr];simp
  have hso:=ho s
  rw [getP_cons hxr]
  generalize ofS s L=ol at *
  obtain ⟨⟨xs,xn,xl,xd⟩,_⟩:=hA.2.2.2 x hxm
  have CP:=fun w hr=>copied x.s x.b x.l x.a x.n x.c w xs xn hr xl
  have hxF:acF x∈bookF g o L++acsF a n L:=List.mem_append_right _ (.tail _ (List.mem_map.2 ⟨x,hxm,rfl⟩))
  show Tree.wpD _ _ _ (fun e w'=>∃i:One,Sl i.1 x.l.length i.2∧Gives w w' e (acc x.s x.b i.1 x.l.length i.2) [rowF (pt i.1 x.l.length) (cellsL x.l)]) _ _
  rw [← xn]
  conv=>arg 5;whnf
  refine wp_br (fun h=>by have h2:((ol.length:Int)==0)=true:=h;rw [beq_iff_eq] at h2;omega) (fun h=>?_)
  conv=>arg 5;whnf
  refine wp_must ⟨by omega,by show (0:Int)<(ol.length:Int);omega,hso.some hlen⟩ ?_
  conv=>arg 5;whnf
  refine readG Sxs.env_ok (vs:=x.cs) (sz:=3) (k:=0) rfl rfl hmf hlen (hso.some hlen) (cellsA_at hx0) rfl ?_
  conv=>arg 5;whnf
  refine meet1F (f:=165) (n:=x.n) (v:=fun a1 c1=>acc x.s x.b a1 x.n c1) (xs:=cellsL x.l) rfl (by kernel_rfl) (fun β ρ w' hM'=>CP w' (hM'.at_ hxF)) (fun y c_y h_y f_y=>?_)
  conv=>arg 5;whnf
  refine wp_back fun β ρ w' hM'=>⟨(y,c_y),h_y,rfl,hM'.below,fun φ hφ g' hg'=>?_⟩
  simp only [List.mem_singleton] at hφ
  subst hφ
  exact ⟨f_y g' hg',hM'.at_ (.head _) g' hg'⟩
 ·have hlk:(lkM (bkM (keysP L) fun s=>.slice (o s).1 (ofS s L).length (o s).2) s).getD (.slice none 0 0)=.slice none 0 0:=by rw [lk_bkM,if_neg hs];rfl
  rw [show (if false=true then Value.tuple #[(lkM (bkM (keysP L) fun s=>.slice (o s).1 (ofS s L).length (o s).2) s).getD (.slice none 0 0),.bool (lkM (bkM (keysP L) fun s=>.slice (o s).1 (ofS s L).length (o s).2) s).isSome] else (lkM (bkM (keysP L) fun s=>.slice (o s).1 (ofS s L).length (o s).2) s).getD (.slice none 0 0))=.slice none 0 0 from hlk,getP_nil (ofS_none hs)]
  conv=>arg 5;whnf
  exact wp_back fun β ρ w' hM'=>⟨(none,0),⟨Nat.le_refl _,Nat.zero_le _,fun _=>⟨rfl,rfl⟩⟩,rfl,hM'.below,fun φ hφ g' hg'=>by simp only [List.mem_singleton] at hφ;subst hφ;cases hg'⟩
end Go.Proofs.YtdbjakibneeeiaaGreatDoor.shard
namespace Go.Proofs.YtdbjakibneeeiaaGreatDoor.shard
open Go.RowKit Sx txn queue greedy
structure Shd where
 a:Option Addr
 n:Nat
 c:Nat
 L:List Ac
 v:Int
def Shd.cs (q:Shd):List Value:=[.slice q.a q.n q.c,.int .i64 q.v]
def cellsS (S:List Shd):List Value:=S.flatMap Shd.cs
theorem cellsS_at {S:List Shd} {k:Nat} {q:Shd} (h:S[k]?=some q):∀(j:Nat) (u:Value),q.cs[j]?=some u→(cellsS S)[k*2+j]?=some u:=by
 induction S generalizing k with
 | nil=>simp at h
 | cons y S ih=>
  intro j u hu
  unfold cellsS
  rw [List.flatMap_cons]
  cases k with
  | zero=>
   simp at h;subst h
   have hj:j<y.cs.length:=(List.getElem?_eq_some_iff.1 hu).1
   rw [Nat.zero_mul,Nat.zero_add,List.getElem?_append_left hj];exact hu
  | succ k=>
   have:=ih (by simpa using h) j u hu
   rw [show (k+1)*2+j=y.cs.length+(k*2+j) from by show _=2+_;omega,List.getElem?_append_right (Nat.le_add_right _ _),Nat.add_sub_cancel_left]
   exact this
end Go.Proofs.YtdbjakibneeeiaaGreatDoor.shard
namespace Go.Proofs.YtdbjakibneeeiaaGreatDoor.fnv
open Go.RowKit
def shardV (s n:Int):Int:=if 0≤s∧s≤255∧1≤n∧n≤8 then hof [UInt8.ofNat s.toNat] % n else -1
theorem shard_no (s n:Int) (w:World) (h:s<0∨255<s∨n<1∨8<n) :
  Calls Tryz.prog 132 #[.int .i64 s,.int .i64 n] w fun e w'=>e=.returned (.int .i64 (-1))∧w=w':=by
 have h':s<0∨(0≤s∧255<s)∨(0≤s∧s≤255∧n<1)∨(0≤s∧s≤255∧1≤n∧8<n):=by omega
 clear h
 rcases h' with h | ⟨h,h1⟩ | ⟨h,h1,h2⟩ | ⟨h,h1,h2,h3⟩
 all_goals
  go_enter Tryz.func132,Tryz.ntmps132
  go_wp2_with fail
  go_ret
  exact ⟨rfl,rfl⟩
theorem one_string (b:UInt8) (w:World) :
  (convert 169 9 (.slice (some ⟨w.heap.size,0,none⟩) 1 1)).run Tryz.prog (w.alloc (.cells #[.int .u8 b.toNat] 5 (0,0)))=.ok (.string ⟨#[b]⟩) (w.alloc (.cells #[.int .u8 b.toNat] 5 (0,0))):=
 to_string (l:=[b]) (t:=5) (by show (w.heap.push _)[w.heap.size]?=_;simp [cellsOf]) 1 1 rfl
theorem shard_in (b:UInt8) (n:Int) (w:World) (h0:1≤n) (h1:n≤8) :
  Calls Tryz.prog 132 #[.int .i64 b.toNat,.int .i64 n] w fun e w'=>e=.returned (.int .i64 (hof [b] % n))∧Below w.heap.size w w':=by
 have hb:(b.toNat:Int)≤255:=by have:=b.toNat_lt;omega
 have hv:=one_string b w
 have hd:=hstep_bd 14695981039346656037 b
 have hof':hof [b]=hstep 14695981039346656037 b:=rfl
 have ho:∀w,Calls Tryz.prog 158 #[.string ⟨#[b]⟩] w fun e w'=>e=.returned (.int .u64 (hof [b]))∧w=w':=fun w=>of_any ⟨#[b]⟩ w (by show 1≤2 ^ 63 - 1;decide)
 have HO:=Lib.hid ho
 rw [hof'] at HO ⊢
 clear ho hof'
 generalize hstep 14695981039346656037 b=v at hd HO ⊢
 have c2:v % n≤9223372036854775807:=by have:=Int.emod_lt_of_pos v (show 0<n by omega);omega
 have c3:0≤v % n:=Int.emod_nonneg _ (by omega)
 go_enter Tryz.func132,Tryz.ntmps132
 go_wp2_with fail
 refine (HO.out _).mono ?_
 rintro e w' ⟨rfl,rfl⟩
 go_wp2_with fail
 go_ret
 exact ⟨rfl,(Below.refl _ _).alloc (Nat.le_refl _) _⟩
theorem shard_any (s n:Int) (w:World) :
  Calls Tryz.prog 132 #[.int .i64 s,.int .i64 n] w fun e w'=>e=.returned (.int .i64 (shardV s n))∧Below w.heap.size w w':=by
 unfold shardV
 by_cases h:0≤s∧s≤255∧1≤n∧n≤8
 ·rw [if_pos h]
  obtain ⟨h0,h1,h2,h3⟩:=h
  have e:s=((UInt8.ofNat s.toNat).toNat:Int):=by
   rw [UInt8.toNat_ofNat']
   omega
  generalize UInt8.ofNat s.toNat=b at e ⊢
  subst e
  exact shard_in b n w h2 h3
 ·rw [if_neg h]
  exact (shard_no s n w (by omega)).mono fun e w' ⟨he,hw⟩=>⟨he,hw▸Below.refl _ _⟩
end Go.Proofs.YtdbjakibneeeiaaGreatDoor.fnv
namespace Go.Proofs.YtdbjakibneeeiaaGreatDoor.shard
open Go.RowKit Sx txn queue greedy
abbrev T1:Tx:=⟨3,1,5,9,1,ByteArray.empty⟩
theorem sl0:Sl none 0 0:=⟨Nat.le_refl _,Nat.zero_le _,fun _=>⟨rfl,rfl⟩⟩
theorem d1:∀t∈[T1],t.d.size≤maxLen:=by intro t ht;simp only [List.mem_singleton] at ht;subst ht;exact Nat.zero_le _
end Go.Proofs.YtdbjakibneeeiaaGreatDoor.shard
