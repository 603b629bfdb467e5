/- A walk by reckoning: what a run of a function's code comes to, told of named values; no condition. -/
import Derived.WalkKit
import Derived.Below
import Derived.OrdersHeld
import Derived.Deep.RegionHeld3
import Derived.Deep.LoopGhost
import Derived.ScopeJumps
import Derived.Laws.AppendOwn
import Derived.Laws.Rows
import Derived.Laws.Cells
set_option linter.all false
set_option maxHeartbeats 4000000
set_option maxRecDepth 100000
namespace Go.Proofs.YtdbjakibneeeiaaGreatDoor.Sx
open Go.RowKit
inductive T where
 | any
 | v (x:Value)
 | p (b o:Nat)
 | fn (f:FuncId) (caps:List (Nat×Nat))
 | s (b n:Nat)
 | r (i:Nat)
 | q (i o:Nat)
 | w (i lo size:Nat)
structure Fact where
 g:Option Nat
 holds:Obj→Prop
structure Row where
 e:TypeId
 size:Nat
 n:Nat
 xs:List Value
structure M where
 own:List (Option (List T×TypeId))
 rows:List (Option Row)
 facts:List Fact
def ptr (β:List Nat) (b o:Nat) (y:Value):Prop:=∃g,β[b]?=some g∧y=.pointer (some ⟨g,o,none⟩)
def Rel (β:List Nat) (ρ:List Value):T→Value→Prop
 | .any,_=>True
 | .v x,y=>y=x
 | .p b o,y=>ptr β b o y
 | .fn f caps,y=>∃cs:List Value,y=.func (.func f) #[] cs.toArray∧cs.length=caps.length∧∀(j:Nat) (c:Nat×Nat),caps[j]?=some c→∃u,cs[j]?=some u∧ptr β c.1 c.2 u
 | .s b n,y=>∃g,β[b]?=some g∧y=.slice (some ⟨g,0,none⟩) n n
 | .r i,y=>ρ[i]?=some y
 | .q i o,y=>∃v g,ρ[i]?=some v∧v.ownBlock=some g∧y=.pointer (some ⟨g,o,none⟩)
 | .w i lo size,y=>∃a n c,ρ[i]?=some (.slice a n c)∧lo≤n∧y=.slice (if c=lo then a else a.map fun x=>x.add (lo*size)) (n - lo) (c - lo)
def ak (β:List Nat) (ρ:List Value) (t:List T) (l:List Value):Prop:=l.length=t.length∧∀(i:Nat) (x:T),t[i]?=some x→∃y,l[i]?=some y∧Rel β ρ x y
def lB (m:M) (β:List Nat) (ρ:List Value) (g:Nat):Prop:=(∀b:Nat,β[b]?=some g→(m.own[b]?).join=none)∧∀(i:Nat) (v:Value),ρ[i]?=some v→v.ownBlock=some g→(m.rows[i]?).join=none
structure Mem (W:World) (G:Option Nat) (m:M) (β:List Nat) (ρ:List Value) (w:World):Prop where
 grown:W.grownBy w G
 nd:β.Nodup
 bl:β.length=m.own.length
 lo:∀g∈β,W.heap.size≤g∧g<w.heap.size
 own:∀(b:Nat) (cs:List T) (ty:TypeId),m.own[b]?=some (some (cs,ty))→∃(g:Nat) (l:List Value),β[b]?=some g∧w.heap[g]?=some (Obj.cells (List.toArray l) ty (0,0))∧ak β ρ cs l∧∀u∈l,u.oneCell'=true
 rl:ρ.length=m.rows.length
 row:∀(i:Nat) (r:Row),m.rows[i]?=some (some r)→∃v,ρ[i]?=some v∧w.ownsRow 0 r.e r.size v r.n r.xs
 rb:∀v∈ρ,∀g,v.ownBlock=some g→g∉β∧(W.heap.size≤g∨some g=G)∧g<w.heap.size
 rows:∀(i j:Nat) (v u:Value) (g:Nat),i≠j→ρ[i]?=some v→ρ[j]?=some u→v.ownBlock=some g→u.ownBlock≠some g
 fact:∀φ∈m.facts,∀g,φ.g=some g→lB m β ρ g∧∃o,w.heap[g]?=some o∧φ.holds o
def get (t:List T) (i:Nat):T:=t.getD i .any
def put (t:List T) (d:Option Tmp) (x:T):List T:=match d with | some i=>t.set i x | none=>t
def ev (t:List T):Operand→T
 | .tmp i=>get t i
 | .const x=>.v x
 | .global g=>.v (.pointer (some ⟨g,0,none⟩))
 | .func f=>.v (.func (.func f) #[] #[])
def ak.get {β ρ t l} (h:ak β ρ t l) (i:Nat):Rel β ρ (get t i) (l.getD i undef):=by
 unfold Sx.get
 rcases Nat.lt_or_ge i t.length with hi | hi
 ·obtain ⟨y,hy,hr⟩:=h.2 i _ (List.getElem?_eq_getElem hi)
  rw [List.getD_eq_getElem?_getD,List.getD_eq_getElem?_getD,hy,List.getElem?_eq_getElem hi]
  exact hr
 ·rw [List.getD_eq_getElem?_getD,List.getElem?_eq_none hi]
  trivial
def ak.ev {β ρ t} {a:Act} (h:ak β ρ t a.tmps.toList) (x:Operand):Rel β ρ (ev t x) (a.eval x):=by
 cases x with
 | tmp i=>
  have:=h.get i
  simp only [Sx.ev,Act.eval]
  simpa [Array.getD_eq_getD_getElem?,List.getD_eq_getElem?_getD] using this
 | const x=>rfl
 | global g=>rfl
 | func f=>rfl
def ak.set {β ρ t l x y} (h:ak β ρ t l) (i:Nat) (hx:Rel β ρ x y):ak β ρ (t.set i x) (l.set i y):=by
 refine ⟨by simp [h.1],fun j z hz=>?_⟩
 rw [List.getElem?_set] at hz ⊢
 by_cases hij:i=j
 ·subst hij
  rw [if_pos rfl] at hz ⊢
  by_cases hl:i<t.length
  ·rw [if_pos hl] at hz
   rw [if_pos (by rw [h.1];exact hl)]
   obtain rfl:=Option.some.inj hz
   exact ⟨y,rfl,hx⟩
  ·rw [if_neg hl] at hz;cases hz
 ·rw [if_neg hij] at hz ⊢
  exact h.2 j z hz
def ak.put {β ρ t} {a:Act} {x y} (h:ak β ρ t a.tmps.toList) (d:Option Tmp) (hx:Rel β ρ x y):ak β ρ (put t d x) (a.put d y).tmps.toList:=by
 cases d with
 | none=>exact h
 | some i=>
  have:=h.set i hx
  simpa [Sx.put,Act.put] using this
def put_defers (a:Act) (d:Option Tmp) (v:Value):(a.put d v).defers=a.defers:=by cases d <;> rfl
def ptr.more {β b o y} (g:Nat) (h:ptr β b o y):ptr (β++[g]) b o y:=by
 obtain ⟨k,hk,rfl⟩:=h
 exact ⟨k,by rw [List.getElem?_append_left (List.getElem?_eq_some_iff.1 hk).1];exact hk,rfl⟩
def Rel.more {β ρ x y} (g:Nat) (h:Rel β ρ x y):Rel (β++[g]) ρ x y:=by
 cases x with
 | any=>trivial
 | v x=>exact h
 | p b o=>exact ptr.more g h
 | fn f caps=>
  obtain ⟨cs,rfl,hl,hc⟩:=h
  exact ⟨cs,rfl,hl,fun j c hj=>by obtain ⟨u,hu,hp⟩:=hc j c hj;exact ⟨u,hu,hp.more g⟩⟩
 | s b n=>
  obtain ⟨k,hk,rfl⟩:=h
  exact ⟨k,by rw [List.getElem?_append_left (List.getElem?_eq_some_iff.1 hk).1];exact hk,rfl⟩
 | r i=>exact h
 | q i o=>exact h
 | w i lo size=>exact h
def ak.more {β ρ t l} (g:Nat) (h:ak β ρ t l):ak (β++[g]) ρ t l:=⟨h.1,fun i x hx=>by obtain ⟨y,hy,hr⟩:=h.2 i x hx;exact ⟨y,hy,hr.more g⟩⟩
def Rel.ef {β ρ x y} (u:Value) (h:Rel β ρ x y):Rel β (ρ++[u]) x y:=by
 cases x with
 | r i=>exact (List.getElem?_append_left (List.getElem?_eq_some_iff.1 h).1).trans h
 | q i o=>
  obtain ⟨v,g,hv,hg,rfl⟩:=h
  exact ⟨v,g,(List.getElem?_append_left (List.getElem?_eq_some_iff.1 hv).1).trans hv,hg,rfl⟩
 | w i lo size=>
  obtain ⟨a,n,c,hv,hl,rfl⟩:=h
  exact ⟨a,n,c,(List.getElem?_append_left (List.getElem?_eq_some_iff.1 hv).1).trans hv,hl,rfl⟩
 | _=>exact h
def ak.ef {β ρ t l} (u:Value) (h:ak β ρ t l):ak β (ρ++[u]) t l:=⟨h.1,fun i x hx=>by obtain ⟨y,hy,hr⟩:=h.2 i x hx;exact ⟨y,hy,hr.ef u⟩⟩
def lS {W w w':World} {G:Option Nat} (h:W.grownBy w G) (k:Below w.heap.size w w'):W.grownBy w' G:=
 ⟨k.os.trans h.os,k.tape.trans h.tape,k.output.trans h.output,Nat.le_trans h.size k.size,fun i hi hne=>(k.block i (Nat.lt_of_lt_of_le hi h.size)).trans (h.block i hi hne)⟩
def gZ {W w w':World} {G:Option Nat} {g:Nat} (h:W.grownBy w G) (k:w.grownBy w' (some g)) (hg:W.heap.size≤g∨some g=G):W.grownBy w' G:=
 ⟨k.os.trans h.os,k.tape.trans h.tape,k.output.trans h.output,Nat.le_trans h.size k.size,fun i hi hne=>(k.block i (Nat.lt_of_lt_of_le hi h.size) (fun e=>by
  cases e
  rcases hg with hg | hg
  ·omega
  ·exact hne hg)).trans (h.block i hi hne)⟩
def CV {W w w':World} {G row:Option Nat} (h:W.grownBy w G) (k:w.grownBy w' row) (hg:∀g,row=some g→W.heap.size≤g∨some g=G):W.grownBy w' G:=
 ⟨k.os.trans h.os,k.tape.trans h.tape,k.output.trans h.output,Nat.le_trans h.size k.size,fun i hi hne=>(k.block i (Nat.lt_of_lt_of_le hi h.size) (fun e=>by
  rcases hg i e.symm with hg | hg
  ·omega
  ·exact hne hg)).trans (h.block i hi hne)⟩
section
variable {W : World} {G : Option Nat} {m : M} {β : List Nat} {ρ : List Value} {w : World}
def Mem.grow {w':World} (h:Mem W G m β ρ w) (k:Below w.heap.size w w'):Mem W G m β ρ w' where
 grown:=lS h.grown k
 nd:=h.nd
 bl:=h.bl
 lo g hg:=⟨(h.lo g hg).1,Nat.lt_of_lt_of_le (h.lo g hg).2 k.size⟩
 own b cs ty hb:=by
  obtain ⟨g,l,hg,hw,hr⟩:=h.own b cs ty hb
  exact ⟨g,l,hg,(k.block g (h.lo g (List.mem_of_getElem? hg)).2).trans hw,hr⟩
 rl:=h.rl
 row i r hr:=by
  obtain ⟨v,hv,ho⟩:=h.row i r hr
  exact ⟨v,hv,ho.kept (row:=none) ⟨k.os,k.tape,k.output,k.size,fun j hj _=>k.block j hj⟩ (by cases v.ownBlock <;> simp)⟩
 rb v hv g hg:=⟨(h.rb v hv g hg).1,(h.rb v hv g hg).2.1,Nat.lt_of_lt_of_le (h.rb v hv g hg).2.2 k.size⟩
 rows:=h.rows
 fact φ hφ g hg:=by
  obtain ⟨h1,o,ho,hp⟩:=h.fact φ hφ g hg
  exact ⟨h1,o,(k.block g (Array.getElem?_eq_some_iff.1 ho).1).trans ho,hp⟩
def Mem.drew (h:Mem W G m β ρ w):Mem W G m β ρ w.drew:=h.grow (Below.refl _ _).drew
def M.alloc (m:M) (cs:List T) (ty:TypeId):M:={ m with own:=m.own++[some (cs,ty)] }
def Mem.alloc (h:Mem W G m β ρ w) (cs:List T) (ty:TypeId) (l:List Value) (hr:ak β ρ cs l) (h1:∀u∈l,u.oneCell'=true) :
  Mem W G (m.alloc cs ty) (β++[w.heap.size]) ρ (w.alloc (.cells l.toArray ty (0,0))) where
 grown:=lS h.grown ((Below.refl _ _).alloc (Nat.le_refl _) _)
 nd:=by
  rw [List.nodup_append]
  refine ⟨h.nd,by simp,fun a ha b hb e=>?_⟩
  simp only [List.mem_singleton] at hb
  have:=(h.lo a ha).2
  omega
 bl:=by simp [M.alloc,h.bl]
 lo g hg:=by
  have hz:(w.alloc (.cells l.toArray ty (0,0))).heap.size=w.heap.size+1:=by simp
  rw [hz]
  rcases List.mem_append.1 hg with hg | hg
  ·have:=h.lo g hg;omega
  ·simp only [List.mem_singleton] at hg;have:=h.grown.size;omega
 own b cs' ty' hb:=by
  simp only [M.alloc] at hb
  rcases Nat.lt_or_ge b m.own.length with hl | hl
  ·rw [List.getElem?_append_left hl] at hb
   obtain ⟨g,l',hg,hw,hr',h1'⟩:=h.own b cs' ty' hb
   exact ⟨g,l',by rw [List.getElem?_append_left (by rw [h.bl];exact hl)];exact hg,(Below.heap_alloc w _ g (h.lo g (List.mem_of_getElem? hg)).2).trans hw,hr'.more _,h1'⟩
  ·rw [List.getElem?_append_right hl] at hb
   obtain ⟨hb0,hb1⟩:=List.getElem?_eq_some_iff.1 hb
   simp only [List.length_singleton] at hb0
   obtain rfl:b=m.own.length:=by omega
   simp at hb
   obtain ⟨rfl,rfl⟩:=hb
   refine ⟨w.heap.size,l,?_,heap_alloc_new w _,hr.more _,h1⟩
   rw [← h.bl,List.getElem?_append_right (Nat.le_refl _)]
   simp
 rl:=h.rl
 row i r hr:=by
  obtain ⟨v,hv,ho⟩:=h.row i r hr
  exact ⟨v,hv,ho.alloc _⟩
 rb v hv g hg:=by
  obtain ⟨h1,h3,h2⟩:=h.rb v hv g hg
  refine ⟨fun hm=>?_,h3,by simp;omega⟩
  rcases List.mem_append.1 hm with hm | hm
  ·exact h1 hm
  ·simp only [List.mem_singleton] at hm;omega
 rows:=h.rows
 fact φ hφ g hg:=by
  obtain ⟨⟨h1,h2⟩,o,ho,hp⟩:=h.fact φ hφ g hg
  have hlt:=(Array.getElem?_eq_some_iff.1 ho).1
  refine ⟨⟨fun b hb=>?_,h2⟩,o,(Below.heap_alloc w _ g hlt).trans ho,hp⟩
  rcases Nat.lt_or_ge b β.length with hl | hl
  ·rw [List.getElem?_append_left hl] at hb
   simp only [M.alloc]
   rw [List.getElem?_append_left (by rw [← h.bl];exact hl)]
   exact h1 b hb
  ·rw [List.getElem?_append_right hl] at hb
   have:=List.mem_of_getElem? hb
   simp only [List.mem_singleton] at this
   omega
def M.cC (m:M) (b:Nat) (cs:List T) (ty:TypeId):M:={ m with own:=m.own.set b (some (cs,ty)) }
def Mem.qp {w':World} {b g:Nat} {cs cs':List T} {ty:TypeId} {l':List Value} (h:Mem W G m β ρ w) (hb:m.own[b]?=some (some (cs,ty))) (hg:β[b]?=some g) (k:w.grownBy w' (some g))
  (hw:w'.heap[g]?=some (Obj.cells l'.toArray ty (0,0))) (hr:ak β ρ cs' l') (h1:∀u∈l',u.oneCell'=true):Mem W G (m.cC b cs' ty) β ρ w':=by
 have hgm:g∈β:=List.mem_of_getElem? hg
 have inj:∀(i j a:Nat),β[i]?=some a→β[j]?=some a→i=j:=fun i j a hi hj=>by
  obtain ⟨hi1,hi2⟩:=List.getElem?_eq_some_iff.1 hi
  obtain ⟨hj1,hj2⟩:=List.getElem?_eq_some_iff.1 hj
  exact (List.getElem_inj h.nd).1 (hi2.trans hj2.symm)
 constructor
 ·exact gZ h.grown k (.inl (h.lo g hgm).1)
 ·exact h.nd
 ·simpa [M.cC] using h.bl
 ·exact fun x hx=>⟨(h.lo x hx).1,Nat.lt_of_lt_of_le (h.lo x hx).2 k.size⟩
 ·intro b2 cs2 ty2 h2
  simp only [M.cC,List.getElem?_set] at h2
  by_cases hbb:b=b2
  ·subst hbb
   rw [if_pos rfl] at h2
   have hl:b<m.own.length:=(List.getElem?_eq_some_iff.1 hb).1
   rw [if_pos hl] at h2
   simp only [Option.some.injEq,Prod.mk.injEq] at h2
   obtain ⟨rfl,rfl⟩:=h2
   exact ⟨g,l',hg,hw,hr,h1⟩
  ·rw [if_neg hbb] at h2
   obtain ⟨g2,l2,hg2,hw2,hr2,h12⟩:=h.own b2 cs2 ty2 h2
   refine ⟨g2,l2,hg2,(k.block g2 (h.lo g2 (List.mem_of_getElem? hg2)).2 ?_).trans hw2,hr2,h12⟩
   rintro e
   cases e
   exact hbb (inj _ _ _ hg hg2)
 ·exact h.rl
 ·intro i r hr2
  obtain ⟨v,hv,ho⟩:=h.row i r hr2
  refine ⟨v,hv,ho.kept k ?_⟩
  cases hob:v.ownBlock with
  | none=>exact .inl rfl
  | some g2=>exact .inr (fun e=>(h.rb v (List.mem_of_getElem? hv) g2 hob).1 (by cases e;exact hgm))
 ·exact fun v hv g2 hg2=>⟨(h.rb v hv g2 hg2).1,(h.rb v hv g2 hg2).2.1,Nat.lt_of_lt_of_le (h.rb v hv g2 hg2).2.2 k.size⟩
 ·exact h.rows
 ·intro φ hφ g2 hg2
  obtain ⟨⟨h2,h3⟩,o,ho,hp⟩:=h.fact φ hφ g2 hg2
  have hne:g2≠g:=by
   rintro rfl
   have:=h2 b hg
   rw [hb] at this
   cases this
  refine ⟨⟨fun b2 hb2=>?_,h3⟩,o,(k.block g2 (Array.getElem?_eq_some_iff.1 ho).1 (fun e=>by cases e;exact hne rfl)).trans ho,hp⟩
  simp only [M.cC,List.getElem?_set]
  by_cases hbb:b=b2
  ·subst hbb
   rw [hg] at hb2
   exact absurd (Option.some.inj hb2).symm hne
  ·rw [if_neg hbb]
   exact h2 b2 hb2
def fI {α:Type} (l:List α) (o:Nat) (n:List α):List α:=l.take o++n++l.drop (o+n.length)
def ak.nil {β ρ}:ak β ρ [] []:=⟨rfl,fun i x h=>by simp at h⟩
def ak.app {β ρ t l t' l'} (h:ak β ρ t l) (h':ak β ρ t' l'):ak β ρ (t++t') (l++l'):=by
 refine ⟨by simp [h.1,h'.1],fun i x hx=>?_⟩
 rcases Nat.lt_or_ge i t.length with hi | hi
 ·rw [List.getElem?_append_left hi] at hx
  rw [List.getElem?_append_left (by rw [h.1];exact hi)]
  exact h.2 i x hx
 ·rw [List.getElem?_append_right hi] at hx
  rw [List.getElem?_append_right (by rw [h.1];exact hi),h.1]
  exact h'.2 _ x hx
def ak.take {β ρ t l} (h:ak β ρ t l) (n:Nat):ak β ρ (t.take n) (l.take n):=by
 refine ⟨by simp [h.1],fun i x hx=>?_⟩
 rw [List.getElem?_take] at hx ⊢
 by_cases hi:i<n
 ·rw [if_pos hi] at hx ⊢;exact h.2 i x hx
 ·rw [if_neg hi] at hx;cases hx
def ak.drop {β ρ t l} (h:ak β ρ t l) (n:Nat):ak β ρ (t.drop n) (l.drop n):=by
 refine ⟨by simp [h.1],fun i x hx=>?_⟩
 rw [List.getElem?_drop] at hx ⊢
 exact h.2 _ x hx
def ak.fI {β ρ t l t' l'} (h:ak β ρ t l) (h':ak β ρ t' l') (o:Nat):ak β ρ (fI t o t') (fI l o l'):=by
 unfold Sx.fI
 rw [h'.1]
 exact ((h.take o).app h').app (h.drop _)
def ak.vals {β ρ} (l:List Value):ak β ρ (l.map T.v) l:=by
 refine ⟨by simp,fun i x hx=>?_⟩
 rw [List.getElem?_map] at hx
 cases hl:l[i]? with
 | none=>rw [hl] at hx;cases hx
 | some y=>rw [hl] at hx;exact ⟨y,rfl,by cases hx;rfl⟩
def ak.one {β ρ x y} (h:Rel β ρ x y):ak β ρ [x] [y]:=by
 refine ⟨rfl,fun i z hz=>?_⟩
 cases i with
 | zero=>cases hz;exact ⟨y,rfl,h⟩
 | succ i=>simp at hz
def M.eA (m:M) (fs:List Fact):M:={ m with facts:=fs++m.facts }
def Mem.eA (h:Mem W G m β ρ w) (fs:List Fact) (hf:∀φ∈fs,∀g,φ.g=some g→lB m β ρ g∧∃o,w.heap[g]?=some o∧φ.holds o):Mem W G (m.eA fs) β ρ w where
 grown:=h.grown
 nd:=h.nd
 bl:=h.bl
 lo:=h.lo
 own:=h.own
 rl:=h.rl
 row:=h.row
 rb:=h.rb
 rows:=h.rows
 fact φ hφ:=by
  rcases List.mem_append.1 hφ with hφ | hφ
  ·exact hf φ hφ
  ·exact h.fact φ hφ
def Mem.apart (h:Mem W G m β ρ w) {g:Nat} (hg:(g<W.heap.size∧some g≠G)∨w.heap.size≤g∨∃φ∈m.facts,φ.g=some g):lB m β ρ g:=by
 rcases hg with hg | hg | ⟨φ,hφ,hg⟩
 ·refine ⟨fun b hb=>?_,fun i v hv e=>?_⟩
  ·have:=(h.lo g (List.mem_of_getElem? hb)).1;omega
  ·rcases (h.rb v (List.mem_of_getElem? hv) g e).2.1 with h1 | h1
   ·omega
   ·exact absurd h1 hg.2
 ·refine ⟨fun b hb=>?_,fun i v hv e=>?_⟩
  ·have:=(h.lo g (List.mem_of_getElem? hb)).2;omega
  ·have:=(h.rb v (List.mem_of_getElem? hv) g e).2.2;omega
 ·exact (h.fact φ hφ g hg).1
end
def M.bP (m:M) (f:T→T):M:=⟨m.own.map fun q=>q.map fun q=>(q.1.map f,q.2),m.rows,m.facts⟩
def qS {m:M} {f:T→T} {b:Nat} {cs:List T} {ty:TypeId} (h:(m.bP f).own[b]?=some (some (cs,ty))):∃cs0,m.own[b]?=some (some (cs0,ty))∧cs=cs0.map f:=by
 simp only [M.bP,List.getElem?_map] at h
 cases hb:m.own[b]? with
 | none=>rw [hb] at h;cases h
 | some q=>
  rw [hb] at h
  cases q with
  | none=>cases h
  | some q=>
   obtain ⟨c,e⟩:=q
   simp at h
   obtain ⟨rfl,rfl⟩:=h
   exact ⟨c,rfl,rfl⟩
def kQ {m:M} {f:T→T} {b:Nat} (h:(m.own[b]?).join=none):((m.bP f).own[b]?).join=none:=by
 simp only [M.bP,List.getElem?_map]
 cases hb:m.own[b]? with
 | none=>rfl
 | some q=>
  cases q with
  | none=>rfl
  | some q=>rw [hb] at h;cases h
def ak.G1 {β ρ t l} (h:ak β ρ t l) {ρ':List Value} (f:T→T) (hf:∀x y,Rel β ρ x y→Rel β ρ' (f x) y):ak β ρ' (t.map f) l:=by
 refine ⟨by simp [h.1],fun i z hz=>?_⟩
 rw [List.getElem?_map] at hz
 cases hi:t[i]? with
 | none=>rw [hi] at hz;cases hz
 | some z0=>
  rw [hi] at hz
  obtain ⟨u,hu,hru⟩:=h.2 i z0 hi
  simp only [Option.map_some,Option.some.injEq] at hz
  subst hz
  exact ⟨u,hu,hf _ _ hru⟩
section
variable {W : World} {G : Option Nat} {m : M} {β : List Nat} {ρ : List Value} {w : World}
def Mem.bP (h:Mem W G m β ρ w) (f:T→T) (hf:∀x y,Rel β ρ x y→Rel β ρ (f x) y):Mem W G (m.bP f) β ρ w where
 grown:=h.grown
 nd:=h.nd
 bl:=by simpa [M.bP] using h.bl
 lo:=h.lo
 own b cs ty hb:=by
  obtain ⟨cs0,h0,rfl⟩:=qS hb
  obtain ⟨g,l,h1,h2,h3,h4⟩:=h.own b cs0 ty h0
  exact ⟨g,l,h1,h2,h3.G1 f hf,h4⟩
 rl:=h.rl
 row:=h.row
 rb:=h.rb
 rows:=h.rows
 fact φ hφ g hg:=by
  obtain ⟨⟨h1,h2⟩,h3⟩:=h.fact φ hφ g hg
  exact ⟨⟨fun b hb=>kQ (h1 b hb),h2⟩,h3⟩
end
inductive Pq where
 | lend
 | own
 | fresh (e:TypeId) (size:Nat)
structure Env where
 zero:List (TypeId×List T)
 agg:List (TypeId×Option Nat)
 off:List ((TypeId×Nat)×Nat)
 row:List (TypeId×(TypeId×Nat×Nat))
 str:List (TypeId×(List T×List (Nat×Nat)))
 strs:List (TypeId×Unit)
 ints:List (TypeId×Unit)
 how:List (FuncId×Pq)
 quiet:Bool:=false
 turns:Bool:=false
 keep:Bool:=false
 arr:List (TypeId×(Nat×Nat)):=[]
 opens:List FuncId:=[]
 meth:List ((TypeId×String)×FuncId):=[]
 bare:Bool:=false
 base:List Fact:=[]
 lead:Nat:=0
 soon:Bool:=false
 pre:List (Nat×List Nat):=[]
 made:Bool:=false
 soonM:List TypeId:=[]
def nth {α:Type}:List α→Nat→Option α
 | [],_=>none
 | x::_,0=>some x
 | _::l,n+1=>nth l n
def eU {α:Type}:∀(l:List α) (n:Nat),nth l n=l[n]?
 | [],_=>by simp [nth]
 | _::_,0=>by simp [nth]
 | _::l,n+1=>by simp [nth,eU l n]
def lk {α β:Type} [BEq α]:List (α×β)→α→Option β
 | [],_=>none
 | (k,v)::l,x=>bif k==x then some v else lk l x
inductive Tree where
 | ret (v:Value) (m:M)
 | done (p:Prop)
 | both (x y:Tree)
 | need (p:Prop) (x:Tree)
 | call (f:FuncId) (args:List T) (m:M) (k:Value→List Fact→Tree)
 | load (ty:TypeId) (a:Addr) (m:M) (k:Value→Tree)
 | prim (s:Sem Next) (k:Value→Tree)
 | peek (s:Sem Next) (m:M) (k:Value→Tree)
 | op (q:Option (List Fact)) (o:Oper) (m:M) (t:List T) (k:M→List T→T→Tree)
 | share (n:Nat) (k:Option Addr→Nat→Tree)
 | zeros (n:Nat) (k:List Value→Tree)
 | vals (xs:List Value) (o n:Nat) (k:List Value→Tree)
 | own (f:FuncId) (args:List T) (i:Nat) (r:Row) (m:M) (k:Bool→Value→List Fact→Nat→List Value→Tree)
 | make (f:FuncId) (args:List T) (e:TypeId) (size:Nat) (m:M) (k:Nat→List Value→Tree)
 | rows (a:Option Addr) (n size:Nat) (m:M) (k:List Value→Tree)
 | loop (body:Code) (m:M) (t:List T) (k:Exit→M→List T→Tree)
 | scope (body:Code) (m:M) (t:List T) (k:Exit→M→List T→Tree)
 | bad (why:String)
def br (c:Bool) (x y:Tree):Tree:=match c with | true=>x | false=>y
def jf:T→Option (List T)
 | .v x=>some (x.cells.toList.map .v)
 | .any=>none
 | .r _=>none
 | .q _ _=>none
 | .w _ _ _=>none
 | x=>some [x]
def dF:List T→Bool
 | []=>true
 | .v x::l=>x.oneCell'&&dF l
 | .any::_=>false
 | .r _::_=>false
 | .q _ _::_=>false
 | .w _ _ _::_=>false
 | _::l=>dF l
def M.cells (m:M) (b:Nat):Option (List T×TypeId):=(m.own[b]?).join
def aH:List T→Option (List Value)
 | []=>some []
 | .v x::l=>(aH l).map (x :: ·)
 | _::_=>none
def yq (E:Env) (ty:TypeId) (x:T) (m:M):Option Value:=
 match x with
 | .v (.slice _ n _)=>(lk E.row ty).map fun _=>.int .i64 n
 | .v (.string s)=>(lk E.strs ty).map fun _=>.int .i64 s.size
 | .s _ n=>(lk E.row ty).map fun _=>.int .i64 n
 | .r i=>match (m.rows[i]?).join with
  | some r=>(lk E.row ty).map fun _=>.int .i64 r.n
  | none=>none
 | _=>none
def yO (op:BinOp):Bool:=match op with | .add | .sub | .mul | .eql | .neq | .lss | .leq | .gtr | .geq=>true | _=>false
def GN (tw:Bool) (op:BinOp) (a b:Int) (k:T→Tree):Tree:=
 match op with
 | .add=>match tw with | true=>k (.v (.int .i64 (IntKind.i64.wrap (a+b)))) | false=>.need (-9223372036854775808≤a+b∧a+b≤9223372036854775807) (k (.v (.int .i64 (a+b))))
 | .sub=>match tw with | true=>k (.v (.int .i64 (IntKind.i64.wrap (a - b)))) | false=>.need (-9223372036854775808≤a - b∧a - b≤9223372036854775807) (k (.v (.int .i64 (a - b))))
 | .mul=>match tw with | true=>k (.v (.int .i64 (IntKind.i64.wrap (a*b)))) | false=>.need (-9223372036854775808≤a*b∧a*b≤9223372036854775807) (k (.v (.int .i64 (a*b))))
 | .eql=>k (.v (.bool (a==b)))
 | .neq=>k (.v (.bool (a != b)))
 | .lss=>k (.v (.bool (decide (a<b))))
 | .leq=>k (.v (.bool (decide (a≤b))))
 | .gtr=>k (.v (.bool (decide (a>b))))
 | .geq=>k (.v (.bool (decide (a≥b))))
 | _=>.bad "binT"
def p6:List T→Option (List (Nat×Nat))
 | []=>some []
 | .p b o::l=>(p6 l).map ((b,o) :: ·)
 | _::_=>none
def nX (places:List (Nat×Nat)):List T→List (Nat×T)→Option (List T)
 | cs,[]=>some cs
 | cs,(i,x)::l=>match nth places i with
  | some (off,size)=>match jf x with
   | some xs=>bif xs.length==size&&Nat.ble (off+size) cs.length then nX places (fI cs off xs) l else none
   | none=>none
  | none=>none
def Sl (a:Option Addr) (n c:Nat):Prop:=n≤c∧c≤maxLen∧(a=none→n=0∧c=0)
def eG {α:Type}:Nat→List α→List α
 | 0,_=>[]
 | n+1,z=>z++eG n z
def eu:Nat→Nat→Nat→List (Nat×Nat)
 | 0,_,_=>[]
 | n+1,size,o=>(o,size)::eu n size (o+size)
def ay (a:Option Addr) (xs:List Value):Fact:=⟨a.map (·.block),fun o=>∀ad,a=some ad→ad.spot=none∧∃cur e fr,o=.cells cur e fr∧∀(j:Nat) (u:Value),xs[j]?=some u→cur[ad.off+j]?=some u⟩
def gi (i:Nat) (x y:T):T:=match y with | .r j=>bif i==j then x else y | .q j _=>bif i==j then .any else y | .w j _ _=>bif i==j then .any else y | y=>y
def EF (b n:Nat) (x y:T):T:=match y with | .s c k=>bif b==c&&n==k then x else y | y=>y
def je (x:T) (m:M) (t:List T) (k:T→M→List T→Tree):Tree:=
 match x with
 | .r i=>match (m.rows[i]?).join with
  | some r=>.share r.n (fun a c=>k (.v (.slice a r.n c)) (M.bP { m with rows:=m.rows.set i none,facts:=ay a r.xs::m.facts } (gi i (.v (.slice a r.n c)))) (t.map (gi i (.v (.slice a r.n c)))))
  | none=>.bad "share"
 | .s b n=>match m.cells b with
  | some (cs,_)=>match aH cs with
   | some vs=>bif Nat.ble n 1000 then .share n (fun a c=>k (.v (.slice a n c)) (M.bP { m with own:=m.own.set b none,facts:=ay a vs::m.facts } (EF b n (.v (.slice a n c)))) (t.map (EF b n (.v (.slice a n c))))) else .bad "share: long"
   | none=>.bad "share: cells"
  | none=>.bad "share: where"
 | x=>k x m t
def rB:List T→M→List T→(M→List T→Tree)→Tree
 | [],m,t,k=>k m t
 | x::l,m,t,k=>je x m t (fun _ m t=>rB l m t k)
def dV (x:T) (m:M) (t:List T) (k:T→M→List T→Tree):Tree:=
 match x with
 | .s b n=>match m.cells b with
  | some (cs,_)=>rB cs m t (fun m t=>je (.s b n) m t k)
  | none=>.bad "share: where"
 | x=>je x m t k
def bW:List T→M→List T→(List T→M→List T→Tree)→Tree
 | [],m,t,k=>k [] m t
 | x::l,m,t,k=>dV x m t (fun y m t=>bW l m t (fun ys m t=>k (y::ys) m t))
def eE {α:Type}:Nat→(Nat→α)→α
 | 0,k=>k 0
 | n+1,k=>eE n (fun r=>k (r+1))
def oW {α:Type}:∀(n:Nat) (k:Nat→α),eE n k=k n
 | 0,k=>rfl
 | n+1,k=>by simp only [eE,oW n]
def cJ {α:Type} (l:List T) (k:List T→α):α:=
 match l with
 | []=>k []
 | .any::l=>cJ l (fun r=>k (.any::r))
 | .v x::l=>cJ l (fun r=>k (.v x::r))
 | .p b o::l=>eE b (fun b=>eE o (fun o=>cJ l (fun r=>k (.p b o::r))))
 | .fn f c::l=>cJ l (fun r=>k (.fn f c::r))
 | .s b n::l=>eE b (fun b=>cJ l (fun r=>k (.s b n::r)))
 | .r i::l=>eE i (fun i=>cJ l (fun r=>k (.r i::r)))
 | .q i o::l=>eE i (fun i=>cJ l (fun r=>k (.q i o::r)))
 | .w i lo size::l=>eE i (fun i=>cJ l (fun r=>k (.w i lo size::r)))
def bO {α:Type}:∀(l:List T) (k:List T→α),cJ l k=k l
 | [],k=>rfl
 | x::l,k=>by cases x <;> simp only [cJ,bO l,oW]
def pP {α:Type} (l:List (Option (List T×TypeId))) (k:List (Option (List T×TypeId))→α):α:=
 match l with
 | []=>k []
 | none::l=>pP l (fun r=>k (none::r))
 | some (cs,ty)::l=>cJ cs (fun cs=>pP l (fun r=>k (some (cs,ty)::r)))
def pL {α:Type}:∀(l:List (Option (List T×TypeId))) (k:List (Option (List T×TypeId))→α),pP l k=k l
 | [],k=>rfl
 | none::l,k=>by simp only [pP,pL l]
 | some (cs,ty)::l,k=>by simp only [pP,pL l,bO]
def pF {α:Type} (l:List (Option Row)) (k:List (Option Row)→α):α:=
 match l with
 | []=>k []
 | none::l=>pF l (fun r=>k (none::r))
 | some ⟨e,s,n,xs⟩::l=>pF l (fun r=>k (some ⟨e,s,n,xs⟩::r))
def pU {α:Type}:∀(l:List (Option Row)) (k:List (Option Row)→α),pF l k=k l
 | [],k=>rfl
 | none::l,k=>by simp only [pF,pU l]
 | some ⟨e,s,n,xs⟩::l,k=>by simp only [pF,pU l]
def FY {α:Type} (l:List Fact) (k:List Fact→α):α:=
 match l with
 | []=>k []
 | φ::l=>k (φ::l)
def Da {α:Type} (l:List Fact) (k:List Fact→α):FY l k=k l:=by cases l <;> rfl
def pX {α:Type} (m:M) (k:M→α):α:=
 match m with
 | ⟨own,rows,facts⟩=>pP own (fun own=>pF rows (fun rows=>FY facts (fun facts=>k ⟨own,rows,facts⟩)))
def gO {α:Type} (m:M) (k:M→α):pX m k=k m:=by
 obtain ⟨own,rows,facts⟩:=m
 simp only [pX,pL,pU,Da]
def mu {α:Type} (o:Oper) (m:M) (k:M→α):α:=
 match o.op with
 | .move _ | .assign _ | .pick _ _ _ | .load _ _ | .fieldAddr _ _ _ | .indexAddr _ _ _ | .index _ _ _ | .binOp _ _ _ _ _ | .unOp _ _ _ | .extract _ _ | .makeFunc _ _ _ | .build _ _ | .makeInterface _ _ | .convert _ _ _ | .field _ _ _=>k m
 | _=>pX m k
def ki {α:Type} (o:Oper) (m:M) (k:M→α):mu o m k=k m:=by
 unfold mu
 split <;> first | rfl | exact gO m k
def yo (e:TypeId) (size bytes:Nat) (i:Nat) (r:Row) (y:T) (m0 m:M) (t:List T) (k:M→List T→T→Tree):Tree:=
 match y with
 | .s b n=>match m.cells b with
  | some (cs,_)=>match aH cs with
   | some vs=>bif vs.length==n*size then .need (r.n+n≤maxLen∧(r.n+n)*bytes≤140737488355328) (k (M.bP { m with rows:=m.rows.set i (some ⟨e,size,r.n+n,r.xs++vs⟩) } (gi i .any)) (t.map (gi i .any)) (.r i)) else .bad "append: sizes"
   | none=>.bad "append: cells"
  | none=>.bad "append: where"
 | .v (.slice a n c)=>.rows a n size m (fun xs=>.need (r.n+n≤maxLen∧(r.n+n)*bytes≤140737488355328∧(a=none→n=0∧c=0)) (k (M.bP { m with rows:=m.rows.set i (some ⟨e,size,r.n+n,r.xs++xs⟩) } (gi i .any)) (t.map (gi i .any)) (.r i)))
 | _=>.bad "append: what"
def Dv (e:TypeId) (size bytes:Nat) (x y:T) (m0 m:M) (t:List T) (k:M→List T→T→Tree):Tree:=
 match x with
 | .r i=>match (m.rows[i]?).join with
  | some r=>bif r.e==e&&r.size==size then yo e size bytes i r y m0 m t k else .bad "append: row"
  | none=>.bad "append: to what"
 | .v (.slice none 0 0)=>yo e size bytes m.rows.length ⟨e,size,0,[]⟩ y m0 { m with rows:=m.rows++[some ⟨e,size,0,[]⟩] } t k
 | _=>.bad "append: onto"
def rowOf:List T→Option Nat
 | []=>none
 | .r i::_=>some i
 | _::l=>rowOf l
def ju (E:Env) (q:Bool) (g:FuncId):Option Pq:=bif q then none else match E.quiet with
 | false=>lk E.how g
 | true=>match E.made with
  | false=>none
  | true=>match lk E.how g with
   | some (.fresh e z)=>some (.fresh e z)
   | _=>none
def zq {E:Env} {q:Bool} {g:FuncId} {h:Pq} (hq:E.quiet=true) (hh:ju E q g=some h):∃e z,h=.fresh e z:=by
 unfold ju at hh
 rw [hq] at hh
 cases q with
 | true=>cases hh
 | false=>
  simp only [cond_false] at hh
  split at hh
  ·cases hh
  ·split at hh
   ·rename_i e z _
    exact ⟨e,z,(Option.some.inj hh).symm⟩
   ·cases hh
def jq (E:Env) (q:Bool) (g:FuncId) (args caps:List T) (m:M) (t:List T) (k:M→List T→T→Tree):Tree:=
 match ju E q g with
 | none=>bW args m t (fun xs m t=>.call g (xs++caps) m (fun v fs=>k (m.eA fs) t (.v v)))
 | some .lend=>.call g (args++caps) m (fun v fs=>k (m.eA fs) t (.v v))
 | some (.fresh e size)=>bW args m t (fun xs m t=>.make g (xs++caps) e size m (fun n ys=>k { m with rows:=m.rows++[some ⟨e,size,n,ys⟩] } t (.r m.rows.length)))
 | some .own=>match rowOf args with
  | none=>.bad "own"
  | some i=>match (m.rows[i]?).join with
   | none=>.bad "own: row"
   | some r=>.own g (args++caps) i r m (fun b v fs n ys=>match b with
    | true=>k (M.bP { m with rows:=m.rows.set i (some ⟨r.e,r.size,n,ys⟩),facts:=fs++m.facts } (gi i .any)) (t.map (gi i .any)) (.r i)
    | false=>k { m with rows:=m.rows.set i (some ⟨r.e,r.size,n,ys⟩),facts:=fs++m.facts } t (.v v))
def um (f:Array TypeId→TypeId→Array Value→Sem Value) (tys:Array TypeId) (ty:TypeId) (l:List T) (k:Value→Tree):Tree:=
 match aH l with
 | some vs=>.prim (do pure (.value (← f tys ty (List.toArray vs)))) k
 | none=>.bad "builtin"
def AV (x:T):Bool:=match x with | .r _=>true | _=>false
def step0 (E:Env) (o:Oper) (m0 m:M) (t:List T) (k:M→List T→T→Tree):Tree:=
 match o.op with
 | .move x=>k m t (ev t x)
 | .assign x=>k m t (ev t x)
 | .pick c a b=>match ev t c with
  | .v (.bool c)=>br c (k m t (ev t a)) (k m t (ev t b))
  | _=>.bad "pick"
 | .alloc e=>match lk E.zero e with
  | some cs=>k (m.alloc cs e) t (.p m.own.length 0)
  | none=>.bad "alloc"
 | .box e x=>match jf (ev t x) with
  | some xs=>bif dF xs then k (m.alloc xs e) t (.p m.own.length 0) else .bad "box: cells"
  | none=>.bad "box"
 | .load ty a=>match ev t a with
  | .p b off=>match m0.cells b,lk E.agg ty with
   | some (cs,_),some none=>match nth cs off with
    | some .any=>.bad "load: not known"
    | some x=>k m t x
    | none=>.bad "load: no cell"
   | some (cs,_),some (some n)=>match aH ((cs.drop off).take n) with
    | some vs=>bif vs.length==n then k m t (.v (.agg (List.toArray vs))) else .bad "load: size"
    | none=>.bad "load: parts"
   | _,_=>.bad "load"
  | .v (.pointer (some a))=>.load ty a m0 (fun v=>k m t (.v v))
  | .q i off=>match (m0.rows[i]?).join,lk E.agg ty with
   | some r,some none=>.vals r.xs off 1 (fun vs=>match vs with
    | [u]=>k m t (.v u)
    | _=>.bad "load: one")
   | some r,some (some n)=>.vals r.xs off n (fun vs=>k m t (.v (.agg (List.toArray vs))))
   | _,_=>.bad "load: row"
  | _=>.bad "load: where"
 | .store ty a x=>match ev t a with
  | .p b off=>bif E.keep&&AV (ev t x) then (match m.cells b,lk E.agg ty,ev t x with
   | some (cs,e),some none,.r i=>bif (m.rows[i]?).join.isSome&&Nat.blt off cs.length then cJ (cs.set off (.r i)) (fun cs=>k (m.cC b cs e) t (.v undef)) else .bad "store: a row"
   | _,_,_=>.bad "store: a row's place") else dV (ev t x) m t (fun x m t=>match m.cells b with
   | some (cs,e)=>match jf x,lk E.agg ty with
    | some xs,some n=>bif xs.length==n.getD 1&&Nat.ble (off+xs.length) cs.length&&dF xs then cJ (fI cs off xs) (fun cs=>k (m.cC b cs e) t (.v undef)) else .bad "store: size"
    | _,_=>.bad "store: what"
   | none=>.bad "store")
  | .q i off=>match (m.rows[i]?).join,jf (ev t x),lk E.agg ty with
   | some r,some xs,some n=>match aH xs with
    | some vs=>bif xs.length==n.getD 1&&dF xs then .need (off+xs.length≤r.xs.length) (k { m with rows:=m.rows.set i (some ⟨r.e,r.size,r.n,fI r.xs off vs⟩) } t (.v undef)) else .bad "store: row's size"
    | none=>.bad "store: row's cells"
   | _,_,_=>.bad "store: row"
  | _=>.bad "store: where"
 | .fieldAddr s x f=>match lk E.off (s,f) with
  | some d=>match ev t x with
   | .p b o=>k m t (.p b (o+d))
   | .v (.pointer (some a))=>k m t (.v (.pointer (some (a.add d))))
   | .q i o=>k m t (.q i (o+d))
   | _=>.bad "fieldAddr: where"
  | none=>.bad "fieldAddr"
 | .indexAddr ty x i=>match lk E.row ty,ev t x,ev t i with
  | some (_,size,_),.v (.slice a n c),.v (.int .i64 j)=>
   .need (0≤j∧j<n∧a.isSome=true) (k m t (.v (.pointer (some ((a.getD ⟨0,0,none⟩).add (j.toNat*size))))))
  | some (_,size,_),.r i,.v (.int .i64 j)=>match (m.rows[i]?).join with
   | some r=>bif r.size==size then .need (0≤j∧j<r.n) (k m t (.q i (j.toNat*size))) else .bad "indexAddr: size"
   | none=>.bad "indexAddr: row"
  | none,.v u,.v b=>.prim (do pure (.value (← Instr.indexAt ty u b))) (fun v=>k m t (.v v))
  | none,.p b o,.v (.int .i64 j)=>match lk E.arr ty with
   | some (n,size)=>.need (0≤j∧j<n) (k m t (.p b (o+j.toNat*size)))
   | none=>.bad "indexAddr: array"
  | _,_,_=>.bad "indexAddr"
 | .index ty x i=>match ev t x,ev t i with
  | .v u,.v b=>.prim (do pure (.value (← Instr.index ty u b))) (fun v=>k m t (.v v))
  | _,_=>.bad "index"
 | .binOp op ty x y z=>match ev t x,ev t y with
  | .v (.int .i64 a),.v (.int .i64 b)=>bif yO op then GN E.turns op a b (fun v=>k m t v) else .prim (do eqGuard op ty x y (.int .i64 a) (.int .i64 b);pure (.value (← binOp op ty (.int .i64 a) (.int .i64 b)))) (fun v=>k m t (.v v))
  | .v a,.v b=>.prim (do eqGuard op ty x y a b;pure (.value (← binOp op ty a b))) (fun v=>k m t (.v v))
  | _,_=>.bad "binOp"
 | .unOp .not _ x=>match ev t x with
  | .v (.bool b)=>k m t (.v (.bool !b))
  | _=>.bad "unOp"
 | .unOp .neg _ x=>match ev t x with
  | .v (.int .i64 a)=>.need (-9223372036854775808≤-a∧-a≤9223372036854775807) (k m t (.v (.int .i64 (-a))))
  | .v u=>.prim (do pure (.value (← Op.unary .neg u))) (fun v=>k m t (.v v))
  | _=>.bad "neg"
 | .field ty x i=>match ev t x with
  | .v u=>.prim (do pure (.value (← Instr.field ty u i))) (fun v=>k m t (.v v))
  | _=>.bad "field"
 | .convert src dst x=>match ev t x with
  | .v u=>.prim (do pure (.value (← convert src dst u))) (fun v=>k m t (.v v))
  | _=>.bad "convert"
 | .extract x i=>match ev t x with
  | .v (.tuple vs)=>match vs.toList[i]? with
   | some v=>k m t (.v v)
   | none=>.bad "extract"
  | _=>.bad "extract: what"
 | .makeFunc (.func f) first caps=>match first.toList,p6 (caps.toList.map (ev t)) with
  | [],some l=>k m t (.fn f l)
  | x::l,some []=>match aH ((x::l).map (ev t)) with
   | some vs=>k m t (.v (.func (.func f) (List.toArray vs) #[]))
   | none=>.bad "makeFunc"
  | _,_=>.bad "makeFunc"
 | .makeFunc (.method n) first caps=>match aH (first.toList.map (ev t)),caps.toList with
  | some vs,[]=>k m t (.v (.func (.method n) (List.toArray vs) #[]))
  | _,_=>.bad "makeFunc: a method"
 | .nilCheck x=>match ev t x with
  | .v u=>.prim (execOp (fun _=>u) o) (fun v=>k m t (.v v))
  | _=>.bad "nilCheck"
 | .lookup ty x i b=>match ev t x,ev t i with
  | .v u,.v j=>.peek (do pure (.value (← Instr.lookup ty u j b))) m0 (fun v=>k m t (.v v))
  | _,_=>.bad "lookup"
 | .build ty parts=>match lk E.str ty with
  | some (cs,places)=>match nX places cs (parts.toList.map fun q=>(q.1,ev t q.2)) with
   | some cs=>match aH cs with
    | some vs=>k m t (.v (.agg (List.toArray vs)))
    | none=>.bad "build: parts"
   | none=>.bad "build: sizes"
  | none=>.bad "build"
 | .buildSlice ty n parts=>match lk E.row ty with
  | some (e,size,_)=>bif n==0 then (bif E.quiet||parts.size != 0 then .bad "buildSlice: nothing" else k { m with rows:=m.rows++[some ⟨e,size,0,[]⟩] } t (.r m.rows.length)) else match lk E.zero e with
   | some z=>match nX (eu n size 0) (eG n z) (parts.toList.map fun q=>(q.1,ev t q.2)) with
    | some cs=>bif dF cs&&z.length==size&&Nat.ble (n*size) 1000 then k (m.alloc cs e) t (.s m.own.length n) else .bad "buildSlice: cells"
    | none=>.bad "buildSlice: parts"
   | none=>.bad "buildSlice: zero"
  | none=>.bad "buildSlice"
 | .makeSlice ty l c=>match lk E.row ty,ev t l,ev t c with
  | some (e,size,bytes),.v (.int .i64 j),.v (.int .i64 c)=>match (lk E.zero e).bind aH with
   | some zs=>bif zs.length==size&&dF (zs.map .v)&&(!E.quiet||E.made) then .need (0≤j∧j=c∧j≤140737488355328∧bytes*j.toNat≤140737488355328) (k { m with rows:=m.rows++[some ⟨e,size,j.toNat,eG j.toNat zs⟩] } t (.r m.rows.length)) else .bad "makeSlice: size"
   | none=>.bad "makeSlice: zero"
  | _,_,_=>.bad "makeSlice"
 | .makeInterface ty x=>match ev t x with
  | .v u=>.prim (do pure (.value (← Instr.makeInterface ty u))) (fun v=>k m t (.v v))
  | _=>.bad "makeInterface"
 | .slice ty x lo hi none=>match ev t x,lo,hi with
  | .r i,none,some h=>match (m.rows[i]?).join,ev t h,lk E.row ty with
   | some r,.v (.int .i64 j),some (_,size,_)=>bif r.size==size && !E.quiet then .need (0≤j∧j≤r.n) (k (M.bP { m with rows:=m.rows.set i (some ⟨r.e,r.size,j.toNat,r.xs.take (j.toNat*size)⟩) } (gi i .any)) (t.map (gi i .any)) (.r i)) else .bad "slice: size"
   | _,_,_=>.bad "slice: row"
  | .r i,some lo,none=>match (m.rows[i]?).join,ev t lo,lk E.row ty with
   | some r,.v (.int .i64 j),some (_,size,_)=>bif r.size==size && !E.quiet then .need (0≤j∧j≤r.n) (k m t (.w i j.toNat size)) else .bad "slice: size"
   | _,_,_=>.bad "slice: row"
  | .v u,none,some h=>match ev t h with
   | .v b=>.prim (do pure (.value (← Instr.sliceAt ty u none (some b) none))) (fun v=>k m t (.v v))
   | _=>.bad "slice: to"
  | .v u,some l,none=>match ev t l with
   | .v b=>.prim (do pure (.value (← Instr.sliceAt ty u (some b) none none))) (fun v=>k m t (.v v))
   | _=>.bad "slice: from"
  | _,_,_=>.bad "slice"
 | .call { callee:=.builtin .len,args:=args,argTypes:=tys }=>match args.toList,tys.toList with
  | [x],[ty]=>match yq E ty (ev t x) m with
   | some v=>k m t (.v v)
   | none=>match ev t x with
    | .v u=>.peek (do pure (.value (← Builtin.len_ #[ty] o.type #[u]))) m0 (fun v=>k m t (.v v))
    | _=>.bad "len"
  | _,_=>.bad "len: of what"
 | .call { callee:=.builtin .clear,args:=args,argTypes:=tys }=>match args.toList,tys.toList with
  | [x],[ty]=>match ev t x,lk E.row ty with
   | .w i lo sz,some (e,size,_)=>match (m.rows[i]?).join with
    | some r=>bif r.e==e&&r.size==size&&sz==size && !E.quiet then .zeros (r.xs.length - lo*size) (fun ys=>k { m with rows:=m.rows.set i (some ⟨r.e,r.size,r.n,r.xs.take (lo*size)++ys⟩) } t (.v (.tuple #[]))) else .bad "clear: size"
    | none=>.bad "clear: row"
   | _,_=>.bad "clear"
  | _,_=>.bad "clear: of what"
 | .call { callee:=.builtin .cap,args:=args,argTypes:=tys }=>match args.toList,tys.toList with
  | [x],[ty]=>match ev t x,lk E.row ty with
   | .v (.slice _ _ c),some _=>k m t (.v (.int .i64 c))
   | _,_=>.bad "cap"
  | _,_=>.bad "cap: of what"
 | .call { callee:=.builtin .min,args:=args,argTypes:=tys }=>um Builtin.min_ tys o.type (args.toList.map (ev t)) (fun v=>k m t (.v v))
 | .call { callee:=.builtin .complex,args:=args,argTypes:=tys }=>um Builtin.complex_ tys o.type (args.toList.map (ev t)) (fun v=>k m t (.v v))
 | .call { callee:=.builtin .real,args:=args,argTypes:=tys }=>um Builtin.real_ tys o.type (args.toList.map (ev t)) (fun v=>k m t (.v v))
 | .call { callee:=.builtin .imag,args:=args,argTypes:=tys }=>um Builtin.imag_ tys o.type (args.toList.map (ev t)) (fun v=>k m t (.v v))
 | .call { callee:=.builtin .max,args:=args,argTypes:=tys }=>match aH (args.toList.map (ev t)) with
  | some vs=>.prim (do pure (.value (← Builtin.max_ tys o.type (List.toArray vs)))) (fun v=>k m t (.v v))
  | none=>.bad "max"
 | .call { callee:=.builtin .append,args:=args,argTypes:=tys }=>match args.toList,tys.toList with
  | [x,y],[ty,ty2]=>match lk E.row ty with
   | some (e,size,bytes)=>bif ty==ty2 then (bif E.quiet then .bad "append: an order" else Dv e size bytes (ev t x) (ev t y) m0 m t k) else match lk E.ints ty2,ev t x,ev t y with
    | some _,.v (.slice none 0 0),.v (.int .i64 j)=>bif E.quiet then .bad "append: zeros" else .need (0<j∧j≤140737488355328∧j.toNat*bytes≤140737488355328) (.zeros (j.toNat*size) (fun xs=>k { m with rows:=m.rows++[some ⟨e,size,j.toNat,xs⟩] } t (.r m.rows.length)))
    | _,_,_=>.bad "append: types"
   | none=>.bad "append: type"
  | _,_=>.bad "append"
 | .call { callee:=.value (.func g),args:=args,argTypes:=_ }=>jq E false g (args.toList.map (ev t)) [] m t k
 | .call { callee:=.invoke r n,args:=args,argTypes:=_ }=>match ev t r with
  | .v (.iface ty v)=>match lk E.meth (ty,n) with
   | some g=>bW (.v v::args.toList.map (ev t)) m t (fun xs m t=>.call g xs m (fun v fs=>k (m.eA fs) t (.v v)))
   | none=>.bad "invoke: a method"
  | _=>.bad "invoke"
 | .call { callee:=.value f,args:=args,argTypes:=_ }=>match ev t f with
  | .v (.func (.func g) first caps)=>bif first.size==0 then jq E true g (args.toList.map (ev t)) (caps.toList.map .v) m t k else bif caps.size==0 then bW (args.toList.map (ev t)) m t (fun xs m t=>.call g (first.toList.map .v++xs) m (fun v fs=>k (m.eA fs) t (.v v))) else .bad "call: bound"
  | .fn g caps=>jq E true g (args.toList.map (ev t)) (caps.map fun c=>.p c.1 c.2) m t k
  | _=>.bad "call"
 | _=>.bad "an operation"
def LS:T→Bool | .r _=>true | .s _ _=>true | _=>false
def jT (E:Env) (o:Oper) (m:M) (t:List T):Option (List T):=
 match o.op with
 | .build _ parts=>bif (parts.toList.map fun q=>ev t q.2).any LS then some (parts.toList.map fun q=>ev t q.2) else none
 | .buildSlice _ _ parts=>bif (parts.toList.map fun q=>ev t q.2).any AV then some (parts.toList.map fun q=>ev t q.2) else none
 | .load ty a=>match ev t a with
  | .p b off=>match m.cells b,lk E.agg ty with
   | some (cs,_),some (some n)=>bif ((cs.drop off).take n).any AV then some ((cs.drop off).take n) else none
   | _,_=>none
  | _=>none
 | .store _ a x=>match ev t a with
  | .q _ _=>bif AV (ev t x) then some [ev t x] else none
  | _=>none
 | .indexAddr _ x _=>match ev t x with
  | .s b n=>some [.s b n]
  | _=>none
 | _=>none
def qL (o:Oper) (t:List T):Option (List T):=
 match o.op with
 | .buildSlice _ _ parts=>bif (parts.toList.map fun q=>ev t q.2).any AV then some (parts.toList.map fun q=>ev t q.2) else none
 | _=>none
def Ho (o:Oper):Bool:=match o.op with | .buildSlice _ _ _=>true | _=>false
def mJ (E:Env) (o:Oper):Bool:=match o.op with | .makeSlice ty _ _=>E.soonM.contains ty | _=>false
def qN (E:Env) (o:Oper):Bool:=E.soon&&Ho o||mJ E o
def opens (E:Env) (t:List T) (o:Oper):Bool:=
 match o.op with
 | .call c=>match c.callee with
  | .invoke r n=>match ev t r with
   | .v (.iface ty _)=>match lk E.meth (ty,n) with
    | some g=>E.opens.contains g
    | none=>true
   | _=>true
  | .value (.func g)=>E.opens.contains g
  | .builtin .delete=>true
  | .builtin .close=>true
  | .builtin .copy=>true
  | .builtin .append=>E.opens.contains 1000000
  | .value f=>match ev t f with
   | .v (.func (.func _) first _)=>!(first.size==0)
   | _=>false
  | _=>false
 | .store _ a _=>match ev t a with | .v _=>true | _=>false
 | .makeSlice _ _ _=>E.opens.contains 1000001
 | .makeMap _ _ | .mapUpdate _ _ _ _ | .insert _ _ _ _ | .mapEntry _ _ _ | .entryStore _ _ _ _ | .range _ _ | .next _ _ | .entry _ | .makeChan _ _ | .send _ _ | .recv _ _ _ | .select _ _ | .typeAssert _ _ _ _=>true
 | _=>false
def step (E:Env) (o:Oper) (m0 m:M) (t:List T) (k:M→List T→T→Tree):Tree:=
 match (bif E.quiet then E.bare else true)&&opens E t o with
 | true=>(match E.quiet with
  | true=>.op (some E.base) o m t k
  | false=>(match o.op with
   | .call c=>bW (c.args.toList.map (ev t)) m t (fun _ m t=>.op none o m t k)
   | _=>.op none o m t k))
 | false=>match E.quiet with
 | true=>(match (bif E.keep then qL o t else none) with
  | none=>(match qN E o with
   | true=>step0 E o m0 m t (fun m t x=>dV x m t (fun x m t=>pX m (fun m=>cJ t (fun t=>k m t x))))
   | false=>step0 E o m0 m t k)
  | some l=>bW l m t (fun _ m t=>pX m (fun m=>cJ t (fun t=>step0 E o m0 m t k))))
 | false=>(match (bif E.keep then jT E o m t else none) with
  | none=>step0 E o m0 m t k
  | some l=>bW l m t (fun _ m t=>pX m (fun m=>cJ t (fun t=>step0 E o m m t k))))
def fA (X:Option (List Nat)) (n0:Nat) (o:Oper) (t:List T):Bool:=
 match X with
 | none=>true
 | some X=>match o.op with
  | .store _ a _=>match ev t a with
   | .p b _=>X.contains b||Nat.ble n0 b
   | _=>false
  | _=>true
def mA (X:Option (List Nat)) (m0 m:M):M:=match X with | none=>m | some _=>m0
def ops (E:Env) (X:Option (List Nat)) (all:List Oper):List Oper→M→M→List T→(M→List T→Tree)→Tree
 | [],m0,m,t,k=>k m t
 | o::rest,m0,m,t,k=>
  match o.guard with
  | none=>bif fA X m0.own.length o t then step E o (mA X m0 m) m t (fun m' t' x=>mu o m' (fun m'=>cJ (put t' o.dst x) (fun t=>ops E X all rest m0 m' t k))) else .bad "a store"
  | some (i,b)=>
   match (nth all i).bind (·.dst) with
   | none=>.bad "guard"
   | some j=>match get t j with
    | .v (.bool c)=>br (c==b)
      (bif fA X m0.own.length o t then step E o (mA X m0 m) m (t.set j (.v (.bool b))) (fun m' t' x=>mu o m' (fun m'=>cJ (put t' o.dst x) (fun t=>ops E X all rest m0 m' t k))) else .bad "a store")
      (cJ (put (t.set j (.v (.bool !b))) o.dst (.v undef)) (fun t=>ops E X all rest m0 m t k))
    | .v (.tuple _)=>cJ (put t o.dst (.v undef)) (fun t=>ops E X all rest m0 m t k)
    | _=>.bad "guard: of what"
def GY (t:List T) (c:Operand) (b:Bool):List T:=match c with | .tmp i=>t.set i (.v (.bool b)) | _=>t
def bh {α:Type} (l:List α):List Nat→List α
 | []=>[]
 | i::r=>match nth l i with
  | some x=>x::bh l r
  | none=>bh l r
inductive Ord where
 | done
 | one (i:Nat) (r:Ord)
 | fork (i:Nat) (r:Ord) (j:Nat) (s:Ord)
 | fork3 (i:Nat) (r:Ord) (j:Nat) (s:Ord) (l:Nat) (u:Ord)
 | last (i:Nat) (r:Ord)
 | now (i:Nat) (r:Ord)
def vl (E:Env) (all:List Oper):Ord→M→List T→(M→List T→Tree)→Tree
 | .done,m,t,k=>k m t
 | .last i r,m,t,k=>ops E none all (bh all [i]) m m t (fun m t=>vl E all r m t k)
 | _,_,_,_=>.bad "an order's end"
def ku (E:Env) (X:Option (List Nat)) (all:List Oper):Ord→M→M→List T→(M→List T→Tree)→Tree
 | .done,m0,m,t,k=>k m t
 | .one i r,m0,m,t,k=>ops E X all (bh all [i]) m0 m t (fun m t=>ku E X all r m0 m t k)
 | .fork i r j s,m0,m,t,k=>.both (ops E X all (bh all [i]) m0 m t (fun m t=>ku E X all r m0 m t k)) (ops E X all (bh all [j]) m0 m t (fun m t=>ku E X all s m0 m t k))
 | .fork3 i r j s l u,m0,m,t,k=>.both (ops E X all (bh all [i]) m0 m t (fun m t=>ku E X all r m0 m t k)) (.both (ops E X all (bh all [j]) m0 m t (fun m t=>ku E X all s m0 m t k)) (ops E X all (bh all [l]) m0 m t (fun m t=>ku E X all u m0 m t k)))
 | .last i r,m0,m,t,k=>vl { E with quiet:=false } all (.last i r) m t k
 | .now i r,m0,m,t,k=>match E.bare with
  | true=>.bad "now: bare"
  | false=>ops E (some []) all (bh all [i]) m m t (fun m t=>ku E X all r m0 m t k)
def kS {α β:Type} (l:List α) (k:List α→β):β:=
 match l with
 | []=>k []
 | x::l=>kS l (fun r=>k (x::r))
def cY {α β:Type}:∀(l:List α) (k:List α→β),kS l k=k l
 | [],k=>rfl
 | x::l,k=>by simp only [kS,cY l]
def Ord.spine:Ord→List Nat×Ord
 | .one i r=>(i::r.spine.1,r.spine.2)
 | .done=>([],.done)
 | .fork i r j s=>([],.fork i r j s)
 | .fork3 i r j s l u=>([],.fork3 i r j s l u)
 | .last i r=>([],.last i r)
 | .now i r=>([],.now i r)
def Ord.eB:Ord→Nat
 | .one _ r=>r.eB
 | .done=>0
 | .fork _ r _ s=>max r.eB s.eB+1
 | .fork3 _ r _ s _ u=>max r.eB (max s.eB u.eB)+1
 | .last _ _=>0
 | .now _ r=>r.eB+1
def rq (E:Env) (X:Option (List Nat)) (all:List Oper):Nat→Ord→M→M→List T→(M→List T→Tree)→Tree
 | 0,_,_,_,_,_=>.bad "an order: forks"
 | f+1,l,m0,m,t,k=>match l.spine.2 with
  | .done=>kS (bh all l.spine.1) (fun L=>ops E X all L m0 m t k)
  | .fork i r j s=>kS (bh all l.spine.1) (fun L=>ops E X all L m0 m t (fun m t=>.both (rq E X all f (.one i r) m0 m t k) (rq E X all f (.one j s) m0 m t k)))
  | .fork3 i r j s h u=>kS (bh all l.spine.1) (fun L=>ops E X all L m0 m t (fun m t=>.both (rq E X all f (.one i r) m0 m t k) (.both (rq E X all f (.one j s) m0 m t k) (rq E X all f (.one h u) m0 m t k))))
  | .one _ _=>.bad "an order"
  | .last i r=>kS (bh all l.spine.1) (fun L=>ops E X all L m0 m t (fun m t=>vl { E with quiet:=false } all (.last i r) m t k))
  | .now i r=>kS (bh all l.spine.1) (fun L=>ops E X all L m0 m t (fun m t=>match E.bare with
   | true=>.bad "now: bare"
   | false=>ops E (some []) all (bh all [i]) m m t (fun m t=>rq E X all f r m0 m t k)))
def BK (E:Env) (X:Option (List Nat)) (all:List Oper):∀(a b:List Oper) (m0 m:M) (t:List T) (k:M→List T→Tree),ops E X all (a++b) m0 m t k=ops E X all a m0 m t (fun m t=>ops E X all b m0 m t k)
 | [],b,m0,m,t,k=>rfl
 | o::a,b,m0,m,t,k=>by simp only [List.cons_append,ops,BK E X all a b]
def AG {α:Type} (l:List α) (i:Nat) (r:List Nat):bh l (i::r)=bh l [i]++bh l r:=by
 simp only [bh]
 cases nth l i <;> rfl
def rZ (E:Env) (X:Option (List Nat)) (all:List Oper):∀(l:Ord) (m0 m:M) (t:List T) (k:M→List T→Tree),ku E X all l m0 m t k=ops E X all (bh all l.spine.1) m0 m t (fun m t=>ku E X all l.spine.2 m0 m t k)
 | .done,m0,m,t,k=>rfl
 | .fork i r j s,m0,m,t,k=>rfl
 | .fork3 i r j s l u,m0,m,t,k=>rfl
 | .last i r,m0,m,t,k=>rfl
 | .now i r,m0,m,t,k=>rfl
 | .one i r,m0,m,t,k=>by
  simp only [ku,Ord.spine]
  rw [AG all i r.spine.1,BK]
  congr 1
  funext m t
  exact rZ E X all r m0 m t k
def qR:∀(l:Ord),l.spine.2.eB=l.eB∧∀i r,l.spine.2≠.one i r
 | .done=>⟨rfl,fun i r h=>by cases h⟩
 | .fork _ _ _ _=>⟨rfl,fun i r h=>by cases h⟩
 | .fork3 _ _ _ _ _ _=>⟨rfl,fun i r h=>by cases h⟩
 | .last _ _=>⟨rfl,fun i r h=>by cases h⟩
 | .now _ _=>⟨rfl,fun i r h=>by cases h⟩
 | .one i r=>qR r
def j5 (E:Env) (X:Option (List Nat)) (all:List Oper):∀(f:Nat) (l:Ord) (m0 m:M) (t:List T) (k:M→List T→Tree),l.eB<f→rq E X all f l m0 m t k=ku E X all l m0 m t k
 | 0,l,m0,m,t,k,h=>by omega
 | f+1,l,m0,m,t,k,h=>by
  rw [rZ]
  obtain ⟨h1,h2⟩:=qR l
  simp only [rq]
  cases hs:l.spine.2 with
  | done=>rw [cY];rfl
  | last i r=>simp only [cY];rfl
  | one i r=>exact absurd hs (h2 i r)
  | now i r=>
   rw [hs] at h1
   simp only [Ord.eB] at h1
   simp only [cY]
   congr 1
   funext m t
   simp only [ku]
   cases E.bare with
   | true=>rfl
   | false=>
    simp only []
    congr 1
    funext m t
    exact j5 E X all f r m0 m t k (by omega)
  | fork i r j s=>
   rw [hs] at h1
   simp only [Ord.eB] at h1
   simp only [cY]
   congr 1
   funext m t
   rw [j5 E X all f (.one i r) m0 m t k (by simp only [Ord.eB];omega),j5 E X all f (.one j s) m0 m t k (by simp only [Ord.eB];omega)]
   rfl
  | fork3 i r j s l u=>
   rw [hs] at h1
   simp only [Ord.eB] at h1
   simp only [cY]
   congr 1
   funext m t
   rw [j5 E X all f (.one i r) m0 m t k (by simp only [Ord.eB];omega),j5 E X all f (.one j s) m0 m t k (by simp only [Ord.eB];omega),j5 E X all f (.one l u) m0 m t k (by simp only [Ord.eB];omega)]
   rfl
def Jp:List Nat→Nat→Ord
 | [],b=>.last b .done
 | i::l,b=>.one i (Jp l b)
def IX:List Nat→Ord
 | []=>.done
 | i::l=>.last i (IX l)
def aK:List Nat→List Nat→Ord
 | [],b=>IX b
 | i::l,b=>.one i (aK l b)
def Zw:List Nat→List Nat→Ord
 | [],_=>.done
 | i::l,n=>bif n.contains i then .now i (Zw l n) else .one i (Zw l n)
def line:List Nat→Ord
 | []=>.done
 | i::l=>.one i (line l)
def M.jF (m:M):List Nat→M
 | []=>m
 | b::l=>M.jF { m with own:=m.own.set b none } l
def alive (m:M):List Nat→Bool
 | []=>true
 | b::l=>((m.own[b]?).join).isSome&&alive m l
def Env.Pp (E:Env) (id:Nat):List Nat:=match lk E.pre id with
 | some l=>l
 | none=>[]
def zD:List Nat→List T
 | []=>[]
 | i::l=>.r i::zD l
def exec (E:Env) (sch:List (Nat×(Ord×List Nat))):Code→M→List T→(Exit→M→List T→Tree)→Tree
 | .skip,m,t,k=>k .normal m t
 | .region id os draw,m,t,k=>
  match draw with
  | false=>ops E none os.toList os.toList m m t (k .normal)
  | true=>bW (zD (E.Pp id)) m t fun _ m t=>match lk sch id with
   | some (l,X)=>bif alive m X then (match E.lead with
    | 0=>rq { E with quiet:=true,base:=m.facts } (some X) os.toList (l.eB+1) l (bif E.bare then { m.jF X with facts:=[] } else m.jF X) m t (k .normal)
    | j+1=>.need (∀φ∈m.facts.take (j+1),∀ψ∈m.facts.drop (j+1),∀g,ψ.g=some g→φ.g≠some g) (rq { E with quiet:=true,base:=m.facts.drop (j+1) } (some X) os.toList (l.eB+1) l { m.jF X with facts:=m.facts.take (j+1) } m t (k .normal))) else .bad "a region's stores"
   | none=>.bad "a region's order"
 | .seq a b,m,t,k=>exec E sch a m t (fun e m t=>match e with
  | .normal=>exec E sch b m t k
  | e=>k e m t)
 | .cond c x y,m,t,k=>match ev t c with
  | .v (.bool b)=>br b (exec E sch x m (GY t c true) k) (exec E sch y m (GY t c false) k)
  | _=>.bad "cond"
 | .block id b,m,t,k=>exec E sch b m t (fun e m t=>match e with
  | .exit i=>bif i==id then k .normal m t else k (.exit i) m t
  | e=>k e m t)
 | .loop b,m,t,k=>.loop b m t k
 | .scope b,m,t,k=>.scope b m t k
 | .exit id,m,t,k=>k (.exit id) m t
 | .label _,m,t,k=>k .normal m t
 | .goto l,m,t,k=>k (.goto l) m t
 | .ret,m,t,k=>k .ret m t
 | _,_,_,_=>.bad "a statement"
def gu (E:Env):List ResultVar→M→List T→(List Value→M→Tree)→Tree
 | [],m,t,k=>k [] m
 | .tmp i::l,m,t,k=>dV (get t i) m t (fun x m t=>match x with
  | .v v=>gu E l m t (fun vs m=>k (v::vs) m)
  | _=>.bad "a result")
 | .cell i ty::l,m,t,k=>match get t i with
  | .p b off=>match m.cells b,lk E.agg ty with
   | some (cs,_),some (some n)=>bW ((cs.drop off).take n) m t (fun xs m t=>match aH xs with
    | some vs0=>bif vs0.length==n then gu E l m t (fun vs m=>k (.agg (List.toArray vs0)::vs) m) else .bad "a result's size"
    | none=>.bad "a result's parts")
   | some (cs,_),some none=>match nth cs off with
    | some x=>dV x m t (fun x m t=>match x with
     | .v v=>gu E l m t (fun vs m=>k (v::vs) m)
     | _=>.bad "a result's cell")
    | _=>.bad "a result's cell"
   | _,_=>.bad "a result: where"
  | _=>.bad "a result in memory"
def YO (vs:List Value):Value:=match vs with
 | [v]=>v
 | vs=>.tuple (List.toArray vs)
def finish (E:Env) (rs:List ResultVar):Exit→M→List T→Tree
 | .normal,m,t=>gu E rs m t (fun vs m=>.ret (YO vs) m)
 | .ret,m,t=>gu E rs m t (fun vs m=>.ret (YO vs) m)
 | _,_,_=>.bad "the end"
def tX:Nat→List T
 | 0=>[]
 | n+1=>.any::tX n
end Go.Proofs.YtdbjakibneeeiaaGreatDoor.Sx
