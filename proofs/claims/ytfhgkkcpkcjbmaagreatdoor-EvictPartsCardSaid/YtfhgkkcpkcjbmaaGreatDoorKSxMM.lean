/- Maps keyed by integers: what is known of them is a list of keys and values; their operations. -/
import Derived.Test.YtfhgkkcpkcjbmaaGreatDoorKSxx
import Derived.MapKept
import Derived.Carry
import Derived.Test.YtfhgkkcpkcjbmaaGreatDoorKSxEnv
set_option linter.all false
set_option maxHeartbeats 4000000
set_option maxRecDepth 100000
namespace Go.Proofs.YtfhgkkcpkcjbmaaGreatDoor.Sx
open Go.RowKit
def ixM:List (Int×Value)→Int→Option (Nat×Value)
 | [],_=>none
 | p::l,x=>if p.1=x then some (0,p.2) else (ixM l x).map fun q=>(q.1+1,q.2)
def lkM (l:List (Int×Value)) (x:Int):Option Value:=(ixM l x).map (·.2)
def putM:List (Int×Value)→Int→Value→List (Int×Value)
 | [],x,v=>[(x,v)]
 | p::l,x,v=>if p.1=x then (x,v)::l else p::putM l x v
def entE (e:MapEntry):Value×Value:=(e.key,e.val)
def entP (p:Int×Value):Value×Value:=(.int .i64 p.1,p.2)
def entM (l:List (Int×Value)) (es:List MapEntry):Prop:=es.map entE=l.map entP
def mapF (g:Nat) (l:List (Int×Value)):Fact:=⟨some g,fun o=>∃es c,o=.map es c∧entM l es.toList∧MapKept.Stamped es c⟩
theorem ixM_cons (p:Int×Value) (l:List (Int×Value)) (x:Int):ixM (p::l) x=if p.1=x then some (0,p.2) else (ixM l x).map fun q=>(q.1+1,q.2):=rfl
theorem lkM_cons (p:Int×Value) (l:List (Int×Value)) (x:Int):lkM (p::l) x=if p.1=x then some p.2 else lkM l x:=by
 unfold lkM
 rw [ixM_cons]
 split
 ·rfl
 ·cases ixM l x <;> rfl
theorem findNow_ix {x:Int}:∀{es:List MapEntry} {l:List (Int×Value)} (i:Nat),entM l es→Instr.findNow (.int .i64) (.int .i64 x) es i=some ((ixM l x).map fun q=>(i+q.1,q.2))
 | [],l,i,h=>by
  cases l with
  | nil=>rfl
  | cons p l=>cases h
 | e::es,l,i,h=>by
  cases l with
  | nil=>cases h
  | cons p l=>
   unfold entM at h
   rw [List.map_cons,List.map_cons] at h
   have h1:=(List.cons.inj h).1
   have ih:=findNow_ix (x:=x) (es:=es) (l:=l) (i+1) (List.cons.inj h).2
   have hk:e.key=.int .i64 p.1:=congrArg Prod.fst h1
   have hv:e.val=p.2:=congrArg Prod.snd h1
   unfold Instr.findNow ixM
   simp only [hk,Instr.sameNow,if_true]
   by_cases hx:p.1=x
   ·simp [hx,hv]
   ·have hx':(x==p.1)=false:=by simpa using fun e=>hx e.symm
    simp only [hx',hx,if_false]
    rw [ih]
    cases ixM l x with
    | none=>rfl
    | some q=>simp;omega
theorem entM_no {x:Int}:∀{es:List MapEntry} {l:List (Int×Value)},entM l es→ixM l x=none→∀e∈es,e.key≠.int .i64 x
 | [],l,h,hx,e,he=>by cases he
 | e0::es,l,h,hx,e,he=>by
  cases l with
  | nil=>cases h
  | cons p l=>
   unfold entM at h
   rw [List.map_cons,List.map_cons] at h
   unfold ixM at hx
   by_cases hp:p.1=x
   ·rw [if_pos hp] at hx;cases hx
   ·rw [if_neg hp] at hx
    have hx2:ixM l x=none:=by cases hi:ixM l x with | none=>rfl | some q=>rw [hi] at hx;cases hx
    rcases List.mem_cons.1 he with rfl | he
    ·have:e.key=.int .i64 p.1:=congrArg Prod.fst (List.cons.inj h).1
     rw [this]
     exact fun e=>hp (by cases e;rfl)
    ·exact entM_no (List.cons.inj h).2 hx2 e he
section
variable {P : Program} {W : World} {G : Option Nat} {Q : Ending → World → Prop} {ds : List Deferred}
theorem run_findKey {k:TypeId} (hk:P.underlying k=some (.int .i64)) {x:Int} {es:List MapEntry} {l:List (Int×Value)} (h:entM l es) (w:World):(Instr.findKey k (.int .i64 x) es).run P w=.ok (ixM l x) w:=by
 unfold Instr.findKey
 simp only [Sem.run_bind,run_underlying hk,Result.andThen_ok,findNow_ix 0 h]
 cases ixM l x <;> simp
theorem run_check {k:TypeId} (hk:P.underlying k=some (.int .i64)) (x:Int) (b:Bool) (w:World):(Instr.checkKey b 10000 k (.int .i64 x)).run P w=.ok () w:=
 MapKept.run_checkKey hk (by simp [MapKept.IsKey]) b 9999
theorem run_lookup_int {T k e:TypeId} {g:Nat} {l:List (Int×Value)} {x:Int} {z:Value} (ht:P.underlying T=some (.map k e)) (hk:P.underlying k=some (.int .i64)) {w:World} (hz:(zeroValue e).run P w=.ok z w)
  {es:Array MapEntry} {c:Nat} (hb:w.heap[g]?=some (.map es c)) (h:entM l es.toList) (b:Bool) :
  (Instr.lookup T (.map (some g)) (.int .i64 x) b).run P w=.ok (if b then .tuple #[(lkM l x).getD z,.bool (lkM l x).isSome] else (lkM l x).getD z) w:=by
 unfold Instr.lookup lkM
 simp only [Sem.run_bind,run_underlying ht,Result.andThen_ok,MapKept.run_getObj_map hb,run_check hk,run_findKey hk h,Sem.run_pure]
 cases ixM l x with
 | none=>simp [hz]
 | some q=>simp
theorem peek_lookup {T k e:TypeId} {g:Nat} {l:List (Int×Value)} {x:Int} {z:Value} {b:Bool} {m:M} {kk:Value→Tree} (ht:P.underlying T=some (.map k e)) (hk:P.underlying k=some (.int .i64)) (hz:∀w,(zeroValue e).run P w=.ok z w)
  (hm:mapF g l∈m.facts) (h:(kk (if b then .tuple #[(lkM l x).getD z,.bool (lkM l x).isSome] else (lkM l x).getD z)).wpD P W G Q ds):(Tree.peek (do pure (.value (← Instr.lookup T (.map (some g)) (.int .i64 x) b))) m kk).wpD P W G Q ds:=by
 refine ⟨_,fun β ρ w hM=>?_,h⟩
 obtain ⟨_,o,ho,es,c,rfl,he,hst⟩:=hM.fact _ hm g rfl
 simp only [Sem.run_bind,run_lookup_int ht hk (hz w) ho he,Result.andThen_ok,Sem.run_pure]
theorem entM_length {l:List (Int×Value)} {es:List MapEntry} (h:entM l es):es.length=l.length:=by
 have:=congrArg List.length h
 simpa using this
theorem op_makeMap {o:Oper} {m:M} {t:List T} {k:M→List T→T→Tree} {T0:TypeId}
  (ho:o.op=.makeMap T0 none) (h:∀g,W.heap.size≤g→(k { m with facts:=mapF g []::m.facts } t (.v (.map (some g)))).wpD P W G Q ds):(Tree.op none o m t k).wpD P W G Q ds:=by
 intro β ρ a w hm hr K Q' hK
 obtain ⟨dst,op,ty',pos,after,guard⟩:=o
 simp only at ho
 subst ho
 unfold Oper.wp
 have:(execOp a.eval ⟨dst,.makeMap T0 none,ty',pos,after,guard⟩).run P w=.ok (.value (.map (some w.heap.size))) (w.alloc (.map #[] 0)):=by
  simp [execOp,run_makeMap]
 rw [this]
 have hm':=(hm.grow ((Below.refl w.heap.size w).alloc (Nat.le_refl _) (.map #[] 0))).learn [mapF w.heap.size []] (by
  intro φ hφ g hg
  simp only [List.mem_singleton] at hφ
  subst hφ
  cases hg
  exact ⟨hm.apart (.inr (.inl (Nat.le_refl _))),_,(MapKept.heap_alloc w _).1,#[],0,rfl,rfl,MapKept.stamped_empty 0⟩)
 exact hK _ t _ β ρ _ _ (h w.heap.size hm.grown.size) hm' hr rfl (fun F h=>by cases h)
theorem entM_put {l:List (Int×Value)} {es:List MapEntry} (h:entM l es) {x:Int} {v:Value}:∀{j:Nat} {u:Value},ixM l x=some (j,u)→∀f:MapEntry→MapEntry,(∀e,entE (f e)=(.int .i64 x,v))→entM (putM l x v) (es.modify j f):=by
 unfold entM at *
 induction l generalizing es with
 | nil=>intro j u hx;cases hx
 | cons p l ih=>
  intro j u hx f hf
  cases es with
  | nil=>cases h
  | cons e es=>
   rw [List.map_cons,List.map_cons] at h
   unfold ixM at hx
   unfold putM
   by_cases hp:p.1=x
   ·rw [if_pos hp] at hx ⊢
    cases hx
    rw [List.modify_zero_cons,List.map_cons,List.map_cons,hf,(List.cons.inj h).2]
    rfl
   ·rw [if_neg hp] at hx ⊢
    cases hi:ixM l x with
    | none=>rw [hi] at hx;cases hx
    | some q=>
     rw [hi] at hx
     cases hx
     rw [List.modify_succ_cons,List.map_cons,List.map_cons,(List.cons.inj h).1,ih (List.cons.inj h).2 hi f hf]
theorem entM_new {l:List (Int×Value)} {es:List MapEntry} (h:entM l es) {x:Int} {v:Value} (hx:ixM l x=none) (e:MapEntry) (he:entE e=(.int .i64 x,v)):entM (putM l x v) (es++[e]):=by
 unfold entM at *
 have:putM l x v=l++[(x,v)]:=by
  clear h
  induction l with
  | nil=>rfl
  | cons p l ih=>
   unfold ixM at hx
   unfold putM
   by_cases hp:p.1=x
   ·rw [if_pos hp] at hx;cases hx
   ·rw [if_neg hp] at hx ⊢
    rw [ih (by cases hi:ixM l x with | none=>rfl | some q=>rw [hi] at hx;cases hx)]
    rfl
 rw [this,List.map_append,List.map_append,h]
 simp [he,entP]
theorem set_grown {w:World} {g:Nat} {o o':Obj} (hb:w.heap[g]?=some o):w.grownBy { w with heap:=w.heap.setIfInBounds g o' } (some g)∧({ w with heap:=w.heap.setIfInBounds g o' }:World).heap[g]?=some o':=by
 have hl:=(Array.getElem?_eq_some_iff.1 hb).1
 refine ⟨⟨rfl,rfl,rfl,by simp,fun k _ hk=>?_⟩,by simp [Array.getElem?_setIfInBounds,hl]⟩
 have:k≠g:=fun e=>hk (by rw [e])
 simp [Array.getElem?_setIfInBounds,Ne.symm this]
theorem run_mapUpdate_int {T k e:TypeId} {g:Nat} {l:List (Int×Value)} {x:Int} {v:Value} (ht:P.underlying T=some (.map k e)) (hk:P.underlying k=some (.int .i64)) {w:World}
  {es:Array MapEntry} {c:Nat} (hb:w.heap[g]?=some (.map es c)) (h:entM l es.toList) (hst:MapKept.Stamped es c) :
  ∃es' c',(Instr.mapUpdate T (.map (some g)) (.int .i64 x) v).run P w=.ok () { w with heap:=w.heap.setIfInBounds g (.map es' c') }∧entM (putM l x v) es'.toList∧MapKept.Stamped es' c':=by
 cases hx:ixM l x with
 | none=>
  refine ⟨es.push ⟨.int .i64 x,v,c⟩,c+1,?_,?_,MapKept.stamped_push hst (entM_no h hx)⟩
  ·simp [Instr.mapUpdate,run_underlying ht,MapKept.run_getObj_map hb,run_check hk,run_findKey hk h,hx,MapKept.run_setObj_map _ hb]
  ·rw [Array.toList_push];exact entM_new h hx _ rfl
 | some q=>
  obtain ⟨j,u⟩:=q
  have hkey:∀old,old=Value.int .i64 x→(Instr.keyThatStays old (.int .i64 x)).run P w=.ok (.int .i64 x) w:=by
   rintro old rfl
   simp [Instr.keyThatStays,Instr.sameBits]
  have hold:((es[j]?).map (·.key)).getD (.int .i64 x)=.int .i64 x:=by
   have H:∀(l:List (Int×Value)) (es:List MapEntry),entM l es→∀j u,ixM l x=some (j,u)→∃e,es[j]?=some e∧e.key=.int .i64 x:=by
    intro l
    induction l with
    | nil=>intro es _ j u hx;cases hx
    | cons p l ih=>
     intro es h j u hx
     cases es with
     | nil=>cases h
     | cons e es=>
      unfold entM at h
      rw [List.map_cons,List.map_cons] at h
      unfold ixM at hx
      by_cases hp:p.1=x
      ·rw [if_pos hp] at hx
       cases hx
       exact ⟨e,rfl,by rw [← hp];exact congrArg Prod.fst (List.cons.inj h).1⟩
      ·rw [if_neg hp] at hx
       cases hi:ixM l x with
       | none=>rw [hi] at hx;cases hx
       | some q=>
        rw [hi] at hx
        cases hx
        obtain ⟨e',h1,h2⟩:=ih es (List.cons.inj h).2 _ _ hi
        exact ⟨e',by simpa using h1,h2⟩
   obtain ⟨e,he,hk⟩:=H l es.toList h j u hx
   have he:es[j]?=some e:=by simpa using he
   rw [he];exact hk
  refine ⟨es.modify j (fun e=>{ e with key:=.int .i64 x,val:=v }),c,?_,?_,MapKept.stamped_modify hst j _ (fun _ _=>rfl) (fun e _ hej=>by rw [hej] at hold;exact hold.symm)⟩
  ·simp only [Instr.mapUpdate,Sem.run_bind,run_underlying ht,Result.andThen_ok,MapKept.run_getObj_map hb,run_check hk,run_findKey hk h,hx,hkey _ hold,MapKept.run_setObj_map _ hb]
  ·rw [Array.toList_modify];exact entM_put h hx _ (fun _=>rfl)
theorem op_mapUpdate {q:Option (List Fact)} {o:Oper} {m:M} {t:List T} {kk:M→List T→T→Tree} {T0 k e:TypeId} {mo ko vo:Operand} {g:Nat} {l:List (Int×Value)} {x:Int} {v:Value} (fs:List Fact)
  (ho:o.op=.mapUpdate T0 mo ko vo) (h1:ev t mo=.v (.map (some g))) (h2:ev t ko=.v (.int .i64 x)) (h3:ev t vo=.v v) (ht:P.underlying T0=some (.map k e)) (hk:P.underlying k=some (.int .i64))
  (hm:mapF g l∈m.facts) (hW:W.heap.size≤g∨some g=G) (hfs:∀ψ∈fs,(ψ∈m.facts∧ψ.g≠some g)∨ψ=mapF g (putM l x v)) (h:(kk { m with facts:=fs } t (.v undef)).wpD P W G Q ds) (hq:∀F,q=some F→∃ψ∈F,ψ.g=some g:=by (intro F h;cases h)):(Tree.op q o m t kk).wpD P W G Q ds:=by
 intro β ρ a w hM hr K Q' hK
 obtain ⟨dst,op,ty',pos,after,guard⟩:=o
 simp only at ho
 subst ho
 have e1:=hr.ev mo
 rw [h1] at e1
 have e1:a.eval mo=.map (some g):=e1
 have e2:=hr.ev ko
 rw [h2] at e2
 have e2:a.eval ko=.int .i64 x:=e2
 have e3:=hr.ev vo
 rw [h3] at e3
 have e3:a.eval vo=v:=e3
 obtain ⟨_,ob,hob,es,c,rfl,he,hst⟩:=hM.fact _ hm g rfl
 obtain ⟨es',c',hrun,he',hst'⟩:=run_mapUpdate_int (x:=x) (v:=v) ht hk hob he hst
 obtain ⟨hgr,hnew⟩:=set_grown (o':=.map es' c') hob
 unfold Oper.wp
 have hrun':(execOp a.eval ⟨dst,.mapUpdate T0 mo ko vo,ty',pos,after,guard⟩).run P w=.ok .skip { w with heap:=w.heap.setIfInBounds g (.map es' c') }:=by
  simp [execOp,e1,e2,e3,hrun]
 rw [hrun']
 refine hK _ t (.v undef) β ρ _ undef h (hM.turn hm rfl hW hgr fun ψ hψ=>?_) hr rfl (fun F h=>⟨rfl,rfl,(hq F h).elim fun ψ hψ=>.inr ⟨ψ,hψ.1,g,hψ.2,hW,hgr⟩⟩)
 rcases hfs ψ hψ with h | rfl
 ·exact .inl h
 ·exact .inr ⟨rfl,_,hnew,es',c',rfl,he',hst'⟩
end
end Go.Proofs.YtfhgkkcpkcjbmaaGreatDoor.Sx

namespace Go.Proofs.YtfhgkkcpkcjbmaaGreatDoor.Sx
open Go.RowKit
theorem fill_more {f g:Nat→Option (Nat×Nat)} (h:∀i q,f i=some q→g i=some q):∀(parts:List (Nat×Value)) (z c:Array Value),Instr.fill f z parts=some c→Instr.fill g z parts=some c
 | [],z,c,hc=>hc
 | (i,v)::rest,z,c,hc=>by
  unfold Instr.fill at hc ⊢
  cases hf:f i with
  | none=>rw [hf] at hc;cases hc
  | some q=>
   rw [hf] at hc
   rw [h i q hf]
   obtain ⟨off,size⟩:=q
   simp only [] at hc ⊢
   split at hc
   ·cases hc
   ·rename_i hn
    rw [if_neg hn]
    exact fill_more h rest _ _ hc
theorem built_array {P:Program} {ty e:TypeId} {n s:Nat} {zc:List Value} {pl:List (Nat×Nat)} (h1:P.underlying ty=some (.array n e)) (h2:∀w,(zeroValue ty).run P w=.ok (.agg zc.toArray) w) (h3:∀w,(sizeOf e).run P w=.ok s w)
  (hp:∀i q,nth pl i=some q→q=(i*s,s)) (parts:Array (Nat×Value)) (c:Array Value) (hc:Instr.fill (nth pl) zc.toArray parts.toList=some c) (w:World):(Instr.build ty parts).run P w=.ok (.agg c) w:=by
 have hc2:=fill_more (g:=fun i=>some (i*s,s)) (fun i q hq=>by rw [hp i q hq]) _ _ _ hc
 simp only [Instr.build,Sem.run_bind,h2,Result.andThen_ok,run_underlying h1,h3,Value.cells,hc2,Sem.run_pure]
theorem Env.Ok.strA {E:Env} {P:Program} (hE:E.Ok P) (ty:TypeId) (cs:List T) (pl:List (Nat×Nat)) (zc:List Value) (hr:Rels [] [] cs zc) (h:∀(parts:Array (Nat×Value)) (c:Array Value),Instr.fill (nth pl) zc.toArray parts.toList=some c→∀w,(Instr.build ty parts).run P w=.ok (.agg c) w) :
  ({ E with str:=(ty,(cs,pl))::E.str }:Env).Ok P:=
 ⟨hE.zero,hE.agg1,hE.aggN,hE.off,hE.row,fun ty' cs' places h'=>by
  simp only [lk] at h'
  cases hb:(ty==ty') with
  | true=>
   rw [hb] at h'
   have e:ty=ty':=by simpa using hb
   subst e
   cases h'
   exact ⟨zc,hr,h⟩
  | false=>rw [hb] at h';exact hE.str ty' cs' places h',hE.strs,hE.ints,hE.size,hE.mixed,hE.row1,hE.meth,hE.arr⟩
end Go.Proofs.YtfhgkkcpkcjbmaaGreatDoor.Sx
