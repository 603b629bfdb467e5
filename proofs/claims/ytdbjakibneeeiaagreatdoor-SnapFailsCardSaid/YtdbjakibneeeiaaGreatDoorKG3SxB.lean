/- Tables of types: zero values and structs, by their cells. -/
import Derived.Test.YtdbjakibneeeiaaGreatDoorKSxS
import Derived.Test.YtdbjakibneeeiaaGreatDoorKSxR
import Derived.Test.YtdbjakibneeeiaaGreatDoorChecked
import Derived.Test.YtdbjakibneeeiaaGreatDoorKG20SxA
import Derived.MapKept
import Derived.Carry
set_option linter.all false
set_option maxHeartbeats 4000000
set_option maxRecDepth 100000
namespace Go.Proofs.YtdbjakibneeeiaaGreatDoor.Sx
open Go.RowKit
def Ak:List T→List Value
 | .v x::l=>x::Ak l
 | _=>[]
def zv (cs:List T):Value:=match Ak cs with
 | [x]=>x
 | l=>.agg l.toArray
def K6 {cs:List T} (h:cs=(Ak cs).map T.v):ak [] [] cs (Ak cs):=by
 have:=ak.vals (β:=[]) (ρ:=[]) (Ak cs)
 rwa [← h] at this
def rM {P:Program} {e:TypeId} {cs:List T} (h:(zeroValue e).run P=fun w=>.ok (zv cs) w) (h2:cs=(Ak cs).map T.v) (h3:(zv cs).cells.toList=Ak cs) (h4:(Ak cs).all (fun u=>u.oneCell')=true):∃z,(zeroValue e).run P=(fun w=>.ok z w)∧ak [] [] cs z.cells.toList∧∀u∈z.cells.toList,u.oneCell'=true:=
 ⟨zv cs,h,by rw [h3];exact K6 h2,by rw [h3];exact List.all_eq_true.1 h4⟩
def ox {P:Program} {e:TypeId} {cs:List T} (h:(zeroValue e).run P=fun w=>.ok (.agg (Ak cs).toArray) w) (h2:cs=(Ak cs).map T.v) (h4:(Ak cs).all (fun u=>u.oneCell')=true):∃z,(zeroValue e).run P=(fun w=>.ok z w)∧ak [] [] cs z.cells.toList∧∀u∈z.cells.toList,u.oneCell'=true:=
 ⟨.agg (Ak cs).toArray,h,K6 h2,List.all_eq_true.1 h4⟩
def cF {P:Program} {ty:TypeId} {cs:List T} {places:List (Nat×Nat)} (h:cs=(Ak cs).map T.v) (hb:∀(parts:Array (Nat×Value)) (c:Array Value),Instr.fill (nth places) (Ak cs).toArray parts.toList=some c→∀w,(Instr.build ty parts).run P w=.ok (.agg c) w) :
  ∃zc:List Value,ak [] [] cs zc∧∀(parts:Array (Nat×Value)) (c:Array Value),Instr.fill (nth places) zc.toArray parts.toList=some c→∀w,(Instr.build ty parts).run P w=.ok (.agg c) w:=⟨Ak cs,K6 h,hb⟩
end Go.Proofs.YtdbjakibneeeiaaGreatDoor.Sx
namespace Go.Proofs.YtdbjakibneeeiaaGreatDoor.Sx
open Go.RowKit
def env:Env:={
 zero:=[(3,[.v (.int .i64 0)]),(4,[.v (.bool false)]),(9,[.v (.string ByteArray.empty)]),(24,[.v (.int .i64 0)]),(27,[.v (.slice none 0 0)]),(26,[.v (.int .i64 0),.v (.int .i64 0),.v (.int .i64 0),.v (.int .i64 0),.v (.int .i64 0),.v (.string ByteArray.empty)]),(90,[.v (.int .i64 0),.v (.int .i64 0),.v (.slice none 0 0)]),(69,[.v (.slice none 0 0)]),(154,[.v (.slice none 0 0)]),(225,[.v (.int .i64 0),.v (.slice none 0 0)]),(220,[.v (.slice none 0 0)])]
 agg:=[(3,none),(4,none),(9,none),(24,none),(27,none),(26,some 6),(90,some 3),(69,none),(154,none),(225,some 2),(220,none)]
 off:=[((26,0),0),((26,1),1),((26,2),2),((26,3),3),((26,4),4),((26,5),5),((90,0),0),((90,1),1),((90,2),2),((225,0),0),((225,1),1)]
 row:=[(27,(26,6,56)),(69,(90,3,40)),(154,(27,1,24)),(220,(225,2,32))]
 str:=[(26,([.v (.int .i64 0),.v (.int .i64 0),.v (.int .i64 0),.v (.int .i64 0),.v (.int .i64 0),.v (.string ByteArray.empty)],[(0,1),(1,1),(2,1),(3,1),(4,1),(5,1)])),(90,([.v (.int .i64 0),.v (.int .i64 0),.v (.slice none 0 0)],[(0,1),(1,1),(2,1)])),(225,([.v (.int .i64 0),.v (.slice none 0 0)],[(0,1),(1,1)]))]
 strs:=[(9,())]
 ints:=[(3,())]
 how:=[(84,.fresh 26 6),(207,.fresh 26 6),(208,.own),(171,.fresh 26 6),(223,.lend)]
 meth:=[]
 opens:=[]
 arr:=[] }
def cB {α β:Type} [BEq α] [LawfulBEq α]:∀{l:List (α×β)} {x:α} {y:β},lk l x=some y→(x,y)∈l
 | [],x,y,h=>by cases h
 | (k,v)::l,x,y,h=>by
  simp only [lk] at h
  cases hb:(k==x) with
  | true=>
   rw [hb] at h
   have:k=x:=by simpa using hb
   subst this
   cases h
   exact List.mem_cons_self
  | false=>rw [hb] at h;exact List.mem_cons_of_mem _ (cB h)
def oc {P:Program} {e:TypeId} {s b z:Nat} (h:(P.info? e).map (fun i=>(i.zero.map (fun v=>v.cells.size),i.size,i.bytes))=some (some z,s,b)) (hs:z=s) (h0:0<s):∃i z,P.info? e=some i∧i.zero=some z∧i.size=s∧i.bytes=b∧z.cells.size=s∧0<s:=by
 cases hi:P.info? e with
 | none=>rw [hi] at h;cases h
 | some i=>
  rw [hi] at h
  simp only [Option.map_some,Option.some.injEq,Prod.mk.injEq,Option.map_eq_some_iff] at h
  obtain ⟨⟨v,hv,h1⟩,h2,h3⟩:=h
  exact ⟨i,v,rfl,hv,h2,h3,h1.trans hs,h0⟩
def row_one {P:Program} {e:TypeId} (h:(P.info? e).map (fun i=>i.zero.map (fun v=>v.cells.toList.all (·.oneCell')))=some (some true)):∀i z,P.info? e=some i→i.zero=some z→∀u∈z.cells.toList,u.oneCell'=true:=by
 intro i z hi hz
 rw [hi] at h
 simp only [Option.map_some,Option.some.injEq,hz] at h
 exact fun u hu=>List.all_eq_true.1 h u hu
def gN {P:Program} {e:TypeId} {s:Nat} (h:(P.info? e).map (·.size)=some s):∃i,P.info? e=some i∧i.size=s:=by
 cases hi:P.info? e with
 | none=>rw [hi] at h;cases h
 | some i=>rw [hi] at h;exact ⟨i,rfl,Option.some.inj h⟩
def oB {P:Program} {ty:TypeId} {n:Nat} (h1:∀w,(isAgg ty).run P w=.ok true w) (h2:(P.info? ty).map (·.size)=some n) (a:Addr) (w:World) (vs:List Value) (hl:vs.length=n) (hc:∀(j:Nat) (u:Value),vs[j]?=some u→w.cell? (a.add j)=some u):(loadVar ty a).run P w=.ok (.agg vs.toArray) w:=by
 obtain ⟨i,hi,his⟩:=gN h2
 have h3:=run_loadCells_list (P:=P) w a vs hc
 rw [hl] at h3
 simp [loadVar,Sem.run_bind,h1,sizeOf,typeInfo,hi,his,h3]
def built {P:Program} {ty:TypeId} {zc:List Value} {pl:List (Nat×Nat)} {fs:Array Field} (h1:P.underlying ty=some (.struct fs)) (h2:∀w,(zeroValue ty).run P w=.ok (.agg zc.toArray) w)
  (h3:∀w,(fs.toList.mapM (fun (f:Field)=>do let x ← sizeOf f.type;pure (f.offset,x))).run P w=.ok pl w)
  (parts:Array (Nat×Value)) (c:Array Value) (hc:Instr.fill (nth pl) zc.toArray parts.toList=some c) (w:World):(Instr.build ty parts).run P w=.ok (.agg c) w:=by
 have e2:(fs.mapM (fun (f:Field)=>do let x ← sizeOf f.type;pure (f.offset,x)):Sem (Array (Nat×Nat)))=List.toArray <$> fs.toList.mapM (fun (f:Field)=>do let x ← sizeOf f.type;pure (f.offset,x)):=by
  rw [← List.mapM_toArray]
 have e:(fun i=>pl.toArray[i]?)=nth pl:=by
  funext i
  rw [eU]
  simp
 simp only [Instr.build,Sem.run_bind,h2,Result.andThen_ok,run_underlying h1,e2,map_eq_pure_bind,h3,Sem.run_pure,e,Value.cells,hc]
def Yz {P:Program} {ty e:TypeId} {n s:Nat} (h1:P.underlying ty=some (.array n e)) (h2:(P.info? e).map (·.size)=some s) (a:Addr) (j:Int) (w:World) (h0:0≤j) (hj:j<n):(Instr.indexAt ty (.pointer (some a)) (.int .i64 j)).run P w=.ok (.pointer (some (a.add (j.toNat*s)))) w:=by
 obtain ⟨i,hi,his⟩:=gN h2
 simp [Instr.indexAt,asIntOf,run_underlying h1,Instr.sureAddr,sizeOf,typeInfo,hi,his,h0,hj]
def aq:env.Ok Tryz.prog where
 zero:=by
  intro e cs h
  have hm:=cB h
  simp only [env,List.mem_cons,Prod.mk.injEq,List.not_mem_nil,or_false] at hm
  iterate 10
   rcases hm with ⟨rfl,rfl⟩ | hm
   ·first | exact rM (by funext w;kernel_rfl) rfl (by kernel_rfl) rfl | exact ox (by funext w;kernel_rfl) rfl rfl
  rcases hm with ⟨rfl,rfl⟩
  first | exact rM (by funext w;kernel_rfl) rfl (by kernel_rfl) rfl | exact ox (by funext w;kernel_rfl) rfl rfl
 agg1:=by
  intro ty h
  have hm:=cB h
  simp only [env,List.mem_cons,Prod.mk.injEq,List.not_mem_nil,or_false] at hm
  iterate 10
   rcases hm with ⟨rfl,hn⟩ | hm
   ·first | exact fun a w=>by kernel_rfl | cases hn
  rcases hm with ⟨rfl,hn⟩
  first | exact fun a w=>by kernel_rfl | cases hn
 aggN:=by
  intro ty n h
  have hm:=cB h
  simp only [env,List.mem_cons,Prod.mk.injEq,List.not_mem_nil,or_false] at hm
  iterate 10
   rcases hm with ⟨rfl,hn⟩ | hm
   ·first | (cases hn;exact oB (fun w=>by kernel_rfl) (by kernel_rfl)) | cases hn
  rcases hm with ⟨rfl,hn⟩
  first | (cases hn;exact oB (fun w=>by kernel_rfl) (by kernel_rfl)) | cases hn
 off:=by
  intro s f d h
  have hm:=cB h
  simp only [env,List.mem_cons,Prod.mk.injEq,List.not_mem_nil,or_false] at hm
  iterate 10
   rcases hm with ⟨⟨rfl,rfl⟩,rfl⟩ | hm
   ·exact fun a w=>by kernel_rfl
  rcases hm with ⟨⟨rfl,rfl⟩,rfl⟩
  exact fun a w=>by kernel_rfl
 row:=by
  intro ty e size bytes h
  have hm:=cB h
  simp only [env,List.mem_cons,Prod.mk.injEq,List.not_mem_nil,or_false] at hm
  iterate 3
   rcases hm with ⟨rfl,rfl,rfl,rfl⟩ | hm
   ·exact ⟨by kernel_rfl,oc (by kernel_rfl) rfl (by decide)⟩
  rcases hm with ⟨rfl,rfl,rfl,rfl⟩
  exact ⟨by kernel_rfl,oc (by kernel_rfl) rfl (by decide)⟩
 str:=by
  intro ty cs places h
  have hm:=cB h
  simp only [env,List.mem_cons,Prod.mk.injEq,List.not_mem_nil,or_false] at hm
  rcases hm with ⟨rfl,rfl,rfl⟩ | ⟨rfl,rfl,rfl⟩ | ⟨rfl,rfl,rfl⟩
  ·exact ⟨[.int .i64 0,.int .i64 0,.int .i64 0,.int .i64 0,.int .i64 0,.string ByteArray.empty],ak.vals (β:=[]) (ρ:=[]) [.int .i64 0,.int .i64 0,.int .i64 0,.int .i64 0,.int .i64 0,.string ByteArray.empty],built Tryz.underlying26 (fun w=>by kernel_rfl) (fun w=>by kernel_rfl)⟩
  ·exact ⟨[.int .i64 0,.int .i64 0,.slice none 0 0],ak.vals (β:=[]) (ρ:=[]) [.int .i64 0,.int .i64 0,.slice none 0 0],built Tryz.underlying90 (fun w=>by kernel_rfl) (fun w=>by kernel_rfl)⟩
  ·exact ⟨[.int .i64 0,.slice none 0 0],ak.vals (β:=[]) (ρ:=[]) [.int .i64 0,.slice none 0 0],built Tryz.underlying225 (fun w=>by kernel_rfl) (fun w=>by kernel_rfl)⟩
 strs:=by
  intro ty u h
  have hm:=cB h
  simp only [env,List.mem_cons,Prod.mk.injEq,List.not_mem_nil,or_false] at hm
  rcases hm with ⟨rfl,_⟩
  ·exact Tryz.underlying9
 ints:=by
  intro ty u h
  have hm:=cB h
  simp only [env,List.mem_cons,Prod.mk.injEq,List.not_mem_nil,or_false] at hm
  rcases hm with ⟨rfl,_⟩
  ·exact Tryz.underlying3
 size:=by
  intro ty n h
  have hm:=cB h
  simp only [env,List.mem_cons,Prod.mk.injEq,List.not_mem_nil,or_false] at hm
  iterate 10
   rcases hm with ⟨rfl,rfl⟩ | hm
   ·exact gN (by kernel_rfl)
  rcases hm with ⟨rfl,rfl⟩
  exact gN (by kernel_rfl)
 mixed:=by kernel_rfl
 row1:=by
  intro ty e size bytes h
  have hm:=cB h
  simp only [env,List.mem_cons,Prod.mk.injEq,List.not_mem_nil,or_false] at hm
  iterate 3
   rcases hm with ⟨rfl,rfl,rfl,rfl⟩ | hm
   ·exact row_one (by kernel_rfl)
  rcases hm with ⟨rfl,rfl,rfl,rfl⟩
  exact row_one (by kernel_rfl)
 meth:=by intro ty n g h;cases h
 arr:=by intro ty n size h;cases h
end Go.Proofs.YtdbjakibneeeiaaGreatDoor.Sx
namespace Go.Proofs.YtdbjakibneeeiaaGreatDoor.Sx
open Go.RowKit
def vu {f g:Nat→Option (Nat×Nat)} (h:∀i q,f i=some q→g i=some q):∀(parts:List (Nat×Value)) (z c:Array Value),Instr.fill f z parts=some c→Instr.fill g z parts=some c
 | [],z,c,hc=>hc
 | (i,v)::rest,z,c,hc=>by
  unfold Instr.fill at hc ⊢
  cases hf:f i with
  | none=>rw [hf] at hc;cases hc
  | some q=>
   rw [hf] at hc
   rw [h i q hf]
   obtain ⟨off,size⟩:=q
   simp only [] at hc ⊢
   split at hc
   ·cases hc
   ·rename_i hn
    rw [if_neg hn]
    exact vu h rest _ _ hc
def j3 {P:Program} {ty e:TypeId} {n s:Nat} {zc:List Value} {pl:List (Nat×Nat)} (h1:P.underlying ty=some (.array n e)) (h2:∀w,(zeroValue ty).run P w=.ok (.agg zc.toArray) w) (h3:∀w,(sizeOf e).run P w=.ok s w)
  (hp:∀i q,nth pl i=some q→q=(i*s,s)) (parts:Array (Nat×Value)) (c:Array Value) (hc:Instr.fill (nth pl) zc.toArray parts.toList=some c) (w:World):(Instr.build ty parts).run P w=.ok (.agg c) w:=by
 have hc2:=vu (g:=fun i=>some (i*s,s)) (fun i q hq=>by rw [hp i q hq]) _ _ _ hc
 simp only [Instr.build,Sem.run_bind,h2,Result.andThen_ok,run_underlying h1,h3,Value.cells,hc2,Sem.run_pure]
end Go.Proofs.YtdbjakibneeeiaaGreatDoor.Sx
namespace Go.Proofs.YtdbjakibneeeiaaGreatDoor.Sx
open Go.RowKit
def nj:List (Int×Value)→Int→Option (Nat×Value)
 | [],_=>none
 | p::l,x=>if p.1=x then some (0,p.2) else (nj l x).map fun q=>(q.1+1,q.2)
def ez (l:List (Int×Value)) (x:Int):Option Value:=(nj l x).map (·.2)
def cw:List (Int×Value)→Int→Value→List (Int×Value)
 | [],x,v=>[(x,v)]
 | p::l,x,v=>if p.1=x then (x,v)::l else p::cw l x v
def ie:List (Int×Value)→Int→List (Int×Value)
 | [],_=>[]
 | p::l,x=>if p.1=x then l else p::ie l x
def Ht (e:MapEntry):Value×Value:=(e.key,e.val)
def JD (p:Int×Value):Value×Value:=(.int .i64 p.1,p.2)
def gx (l:List (Int×Value)) (es:List MapEntry):Prop:=es.map Ht=l.map JD
def bL (g:Nat) (l:List (Int×Value)):Fact:=⟨some g,fun o=>∃es c,o=.map es c∧gx l es.toList∧MapKept.Stamped es c⟩
def BL (x:Int):ez [] x=none:=rfl
def G6 (p:Int×Value) (l:List (Int×Value)) (x:Int):nj (p::l) x=if p.1=x then some (0,p.2) else (nj l x).map fun q=>(q.1+1,q.2):=rfl
def dM (p:Int×Value) (l:List (Int×Value)) (x:Int):ez (p::l) x=if p.1=x then some p.2 else ez l x:=by
 unfold ez
 rw [G6]
 split
 ·rfl
 ·cases nj l x <;> rfl
def yd (l:List (Int×Value)) (x y:Int) (v:Value):ez (cw l x v) y=if x=y then some v else ez l y:=by
 induction l with
 | nil=>unfold cw;rw [dM]
 | cons p l ih=>
  unfold cw
  by_cases h:p.1=x
  ·rw [if_pos h,dM,dM,h]
   by_cases hy:x=y <;> simp [hy]
  ·rw [if_neg h,dM,dM,ih]
   by_cases hy:x=y
   ·subst hy;simp [h]
   ·simp [hy]
def o8 (l:List (Int×Value)):Prop:=(l.map (·.1)).Nodup
def FD:o8 []:=List.nodup_nil
def Gr {l:List (Int×Value)} {x:Int}:ez l x=none↔x∉l.map (·.1):=by
 induction l with
 | nil=>simp [BL]
 | cons p l ih=>
  rw [dM]
  by_cases h:p.1=x
  ·simp [h]
  ·simp only [h,if_false,List.map_cons,List.mem_cons,not_or]
   rw [ih]
   exact ⟨fun k=>⟨fun e=>h e.symm,k⟩,fun k=>k.2⟩
def Du (l:List (Int×Value)) (x:Int) (v:Value):∀y,y∈(cw l x v).map (·.1)↔y=x∨y∈l.map (·.1):=by
 induction l with
 | nil=>intro y;simp [cw]
 | cons p l ih=>
  intro y
  unfold cw
  by_cases h:p.1=x
  ·rw [if_pos h];simp [h]
  ·rw [if_neg h,List.map_cons,List.mem_cons,ih,List.map_cons,List.mem_cons]
   constructor
   ·rintro (h | h | h);exact .inr (.inl h);exact .inl h;exact .inr (.inr h)
   ·rintro (h | h | h);exact .inr (.inl h);exact .inl h;exact .inr (.inr h)
def uj {l:List (Int×Value)} (h:o8 l) (x:Int) (v:Value):o8 (cw l x v):=by
 unfold o8 at *
 induction l with
 | nil=>simp [cw]
 | cons p l ih=>
  rw [List.map_cons,List.nodup_cons] at h
  unfold cw
  by_cases hx:p.1=x
  ·rw [if_pos hx,List.map_cons,List.nodup_cons];subst hx;exact h
  ·rw [if_neg hx,List.map_cons,List.nodup_cons,Du]
   exact ⟨fun k=>k.elim hx h.1,ih h.2⟩
def vb {l:List (Int×Value)} (h:o8 l) (x:Int):∀y,y∈(ie l x).map (·.1)↔y≠x∧y∈l.map (·.1):=by
 unfold o8 at h
 induction l with
 | nil=>intro y;simp [ie]
 | cons p l ih=>
  intro y
  rw [List.map_cons,List.nodup_cons] at h
  unfold ie
  by_cases hx:p.1=x
  ·subst hx
   rw [if_pos rfl,List.map_cons,List.mem_cons]
   exact ⟨fun k=>⟨fun e=>h.1 (e▸k),.inr k⟩,fun k=>k.2.resolve_left k.1⟩
  ·rw [if_neg hx,List.map_cons,List.mem_cons,ih h.2,List.map_cons,List.mem_cons]
   constructor
   ·rintro (k | k)
    ·exact ⟨fun e=>hx (k▸e),.inl k⟩
    ·exact ⟨k.1,.inr k.2⟩
   ·rintro ⟨k1,k2 | k2⟩
    ·exact .inl k2
    ·exact .inr ⟨k1,k2⟩
def yM {l:List (Int×Value)} (h:o8 l) (x:Int):o8 (ie l x):=by
 have hk:=fun (l:List (Int×Value)) (h:o8 l)=>vb h x
 unfold o8 at *
 induction l with
 | nil=>simp [ie]
 | cons p l ih=>
  rw [List.map_cons,List.nodup_cons] at h
  unfold ie
  by_cases hx:p.1=x
  ·rw [if_pos hx];exact h.2
  ·rw [if_neg hx,List.map_cons,List.nodup_cons,hk l h.2]
   exact ⟨fun k=>h.1 k.2,ih h.2⟩
def iQ {l:List (Int×Value)} (h:o8 l) (x y:Int):ez (ie l x) y=if x=y then none else ez l y:=by
 by_cases hxy:x=y
 ·rw [if_pos hxy,Gr,vb h];exact fun k=>k.1 hxy.symm
 ·rw [if_neg hxy]
  unfold o8 at h
  induction l with
  | nil=>rfl
  | cons p l ih=>
   rw [List.map_cons,List.nodup_cons] at h
   unfold ie
   by_cases hx:p.1=x
   ·rw [if_pos hx,dM,if_neg (by rw [hx];exact hxy)]
   ·rw [if_neg hx,dM,dM,ih h.2]
def vF {l:List (Int×Value)}:l.length=0↔∀x,ez l x=none:=by
 constructor
 ·intro h x;rw [List.eq_nil_of_length_eq_zero h];rfl
 ·intro h
  cases l with
  | nil=>rfl
  | cons p l=>have:=h p.1;rw [dM,if_pos rfl] at this;cases this
def uH {x:Int}:∀{es:List MapEntry} {l:List (Int×Value)} (i:Nat),gx l es→Instr.findNow (.int .i64) (.int .i64 x) es i=some ((nj l x).map fun q=>(i+q.1,q.2))
 | [],l,i,h=>by
  cases l with
  | nil=>rfl
  | cons p l=>cases h
 | e::es,l,i,h=>by
  cases l with
  | nil=>cases h
  | cons p l=>
   unfold gx at h
   rw [List.map_cons,List.map_cons] at h
   have h1:=(List.cons.inj h).1
   have ih:=uH (x:=x) (es:=es) (l:=l) (i+1) (List.cons.inj h).2
   have hk:e.key=.int .i64 p.1:=congrArg Prod.fst h1
   have hv:e.val=p.2:=congrArg Prod.snd h1
   unfold Instr.findNow nj
   simp only [hk,Instr.sameNow,if_true]
   by_cases hx:p.1=x
   ·simp [hx,hv]
   ·have hx':(x==p.1)=false:=by simpa using fun e=>hx e.symm
    simp only [hx',hx,if_false]
    rw [ih]
    cases nj l x with
    | none=>rfl
    | some q=>simp;omega
def BM {x:Int}:∀{es:List MapEntry} {l:List (Int×Value)},gx l es→nj l x=none→∀e∈es,e.key≠.int .i64 x
 | [],l,h,hx,e,he=>by cases he
 | e0::es,l,h,hx,e,he=>by
  cases l with
  | nil=>cases h
  | cons p l=>
   unfold gx at h
   rw [List.map_cons,List.map_cons] at h
   unfold nj at hx
   by_cases hp:p.1=x
   ·rw [if_pos hp] at hx;cases hx
   ·rw [if_neg hp] at hx
    have hx2:nj l x=none:=by cases hi:nj l x with | none=>rfl | some q=>rw [hi] at hx;cases hx
    rcases List.mem_cons.1 he with rfl | he
    ·have:e.key=.int .i64 p.1:=congrArg Prod.fst (List.cons.inj h).1
     rw [this]
     exact fun e=>hp (by cases e;rfl)
    ·exact BM (List.cons.inj h).2 hx2 e he
section
variable {P : Program} {W : World} {G : Option Nat} {Q : Ending → World → Prop} {ds : List Deferred}
def run_findKey {k:TypeId} (hk:P.underlying k=some (.int .i64)) {x:Int} {es:List MapEntry} {l:List (Int×Value)} (h:gx l es) (w:World):(Instr.findKey k (.int .i64 x) es).run P w=.ok (nj l x) w:=by
 unfold Instr.findKey
 simp only [Sem.run_bind,run_underlying hk,Result.andThen_ok,uH 0 h]
 cases nj l x <;> simp
def jM {k:TypeId} (hk:P.underlying k=some (.int .i64)) (x:Int) (b:Bool) (w:World):(Instr.checkKey b 10000 k (.int .i64 x)).run P w=.ok () w:=
 MapKept.run_checkKey hk (by simp [MapKept.IsKey]) b 9999
def sx {T k e:TypeId} {g:Nat} {l:List (Int×Value)} {x:Int} {z:Value} (ht:P.underlying T=some (.map k e)) (hk:P.underlying k=some (.int .i64)) {w:World} (hz:(zeroValue e).run P w=.ok z w)
  {es:Array MapEntry} {c:Nat} (hb:w.heap[g]?=some (.map es c)) (h:gx l es.toList) (b:Bool) :
  (Instr.lookup T (.map (some g)) (.int .i64 x) b).run P w=.ok (if b then .tuple #[(ez l x).getD z,.bool (ez l x).isSome] else (ez l x).getD z) w:=by
 unfold Instr.lookup ez
 simp only [Sem.run_bind,run_underlying ht,Result.andThen_ok,MapKept.run_getObj_map hb,jM hk,run_findKey hk h,Sem.run_pure]
 cases nj l x with
 | none=>simp [hz]
 | some q=>simp
def ct {T k e:TypeId} {g:Nat} {l:List (Int×Value)} {x:Int} {z:Value} {b:Bool} {m:M} {kk:Value→Tree} (ht:P.underlying T=some (.map k e)) (hk:P.underlying k=some (.int .i64)) (hz:∀w,(zeroValue e).run P w=.ok z w)
  (hm:bL g l∈m.facts) (h:(kk (if b then .tuple #[(ez l x).getD z,.bool (ez l x).isSome] else (ez l x).getD z)).aD P W G Q ds):(Tree.peek (do pure (.value (← Instr.lookup T (.map (some g)) (.int .i64 x) b))) m kk).aD P W G Q ds:=by
 refine ⟨_,fun β ρ w hM=>?_,h⟩
 obtain ⟨_,o,ho,es,c,rfl,he,hst⟩:=hM.fact _ hm g rfl
 simp only [Sem.run_bind,sx ht hk (hz w) ho he,Result.andThen_ok,Sem.run_pure]
def qC {l:List (Int×Value)} {es:List MapEntry} (h:gx l es):es.length=l.length:=by
 have:=congrArg List.length h
 simpa using this
def FI {T k e:TypeId} {ty:TypeId} {g:Nat} {l:List (Int×Value)} {m:M} {kk:Value→Tree} (ht:P.underlying T=some (.map k e))
  (hm:bL g l∈m.facts) (h:(kk (.int .i64 l.length)).aD P W G Q ds):(Tree.peek (do pure (.value (← Builtin.len_ #[T] ty #[.map (some g)]))) m kk).aD P W G Q ds:=by
 refine ⟨_,fun β ρ w hM=>?_,h⟩
 obtain ⟨_,o,ho,es,c,rfl,he,hst⟩:=hM.fact _ hm g rfl
 have hl:es.size=l.length:=by rw [← qC he,Array.length_toList]
 simp [Builtin.len_,run_underlying ht,MapKept.run_getObj_map ho,goInt,hl]
def jP {o:Oper} {m:M} {t:List T} {k:M→List T→T→Tree} {T0:TypeId}
  (ho:o.op=.makeMap T0 none) (h:∀g,W.heap.size≤g→(k { m with facts:=bL g []::m.facts } t (.v (.map (some g)))).aD P W G Q ds):(Tree.op none o m t k).aD P W G Q ds:=by
 intro β ρ a w hm hr K Q' hK
 obtain ⟨dst,op,ty',pos,after,guard⟩:=o
 simp only at ho
 subst ho
 unfold Oper.wp
 have:(execOp a.eval ⟨dst,.makeMap T0 none,ty',pos,after,guard⟩).run P w=.ok (.value (.map (some w.heap.size))) (w.alloc (.map #[] 0)):=by
  simp [execOp,run_makeMap]
 rw [this]
 have hm':=(hm.grow ((Below.refl w.heap.size w).alloc (Nat.le_refl _) (.map #[] 0))).eA [bL w.heap.size []] (by
  intro φ hφ g hg
  simp only [List.mem_singleton] at hφ
  subst hφ
  cases hg
  exact ⟨hm.apart (.inr (.inl (Nat.le_refl _))),_,(MapKept.heap_alloc w _).1,#[],0,rfl,rfl,MapKept.stamped_empty 0⟩)
 exact hK _ t _ β ρ _ _ (h w.heap.size hm.grown.size) hm' hr rfl (fun F h=>by cases h)
def DZ {l:List (Int×Value)} {es:List MapEntry} (h:gx l es) {x:Int} {v:Value}:∀{j:Nat} {u:Value},nj l x=some (j,u)→∀f:MapEntry→MapEntry,(∀e,Ht (f e)=(.int .i64 x,v))→gx (cw l x v) (es.modify j f):=by
 unfold gx at *
 induction l generalizing es with
 | nil=>intro j u hx;cases hx
 | cons p l ih=>
  intro j u hx f hf
  cases es with
  | nil=>cases h
  | cons e es=>
   rw [List.map_cons,List.map_cons] at h
   unfold nj at hx
   unfold cw
   by_cases hp:p.1=x
   ·rw [if_pos hp] at hx ⊢
    cases hx
    rw [List.modify_zero_cons,List.map_cons,List.map_cons,hf,(List.cons.inj h).2]
    rfl
   ·rw [if_neg hp] at hx ⊢
    cases hi:nj l x with
    | none=>rw [hi] at hx;cases hx
    | some q=>
     rw [hi] at hx
     cases hx
     rw [List.modify_succ_cons,List.map_cons,List.map_cons,(List.cons.inj h).1,ih (List.cons.inj h).2 hi f hf]
def DS {l:List (Int×Value)} {es:List MapEntry} (h:gx l es) {x:Int} {v:Value} (hx:nj l x=none) (e:MapEntry) (he:Ht e=(.int .i64 x,v)):gx (cw l x v) (es++[e]):=by
 unfold gx at *
 have:cw l x v=l++[(x,v)]:=by
  clear h
  induction l with
  | nil=>rfl
  | cons p l ih=>
   unfold nj at hx
   unfold cw
   by_cases hp:p.1=x
   ·rw [if_pos hp] at hx;cases hx
   ·rw [if_neg hp] at hx ⊢
    rw [ih (by cases hi:nj l x with | none=>rfl | some q=>rw [hi] at hx;cases hx)]
    rfl
 rw [this,List.map_append,List.map_append,h]
 simp [he,JD]
def Ef {l:List (Int×Value)} {es:List MapEntry} (h:gx l es) {x:Int}:∀{j:Nat} {u:Value},nj l x=some (j,u)→gx (ie l x) (es.eraseIdx j)∧j<es.length:=by
 unfold gx at *
 induction l generalizing es with
 | nil=>intro j u hx;cases hx
 | cons p l ih=>
  intro j u hx
  cases es with
  | nil=>cases h
  | cons e es=>
   rw [List.map_cons,List.map_cons] at h
   unfold nj at hx
   unfold ie
   by_cases hp:p.1=x
   ·rw [if_pos hp] at hx ⊢
    cases hx
    exact ⟨(List.cons.inj h).2,by simp⟩
   ·rw [if_neg hp] at hx ⊢
    cases hi:nj l x with
    | none=>rw [hi] at hx;cases hx
    | some q=>
     rw [hi] at hx
     cases hx
     obtain ⟨h1,h2⟩:=ih (List.cons.inj h).2 hi
     rw [List.eraseIdx_cons_succ,List.map_cons,List.map_cons,(List.cons.inj h).1,h1]
     exact ⟨rfl,by simp;omega⟩
def D5 {l:List (Int×Value)} {x:Int} (hx:nj l x=none):ie l x=l:=by
 induction l with
 | nil=>rfl
 | cons p l ih=>
  unfold nj at hx
  unfold ie
  by_cases hp:p.1=x
  ·rw [if_pos hp] at hx;cases hx
  ·rw [if_neg hp] at hx ⊢
   rw [ih (by cases hi:nj l x with | none=>rfl | some q=>rw [hi] at hx;cases hx)]
def pZ {w:World} {g:Nat} {o o':Obj} (hb:w.heap[g]?=some o):w.grownBy { w with heap:=w.heap.setIfInBounds g o' } (some g)∧({ w with heap:=w.heap.setIfInBounds g o' }:World).heap[g]?=some o':=by
 have hl:=(Array.getElem?_eq_some_iff.1 hb).1
 refine ⟨⟨rfl,rfl,rfl,by simp,fun k _ hk=>?_⟩,by simp [Array.getElem?_setIfInBounds,hl]⟩
 have:k≠g:=fun e=>hk (by rw [e])
 simp [Array.getElem?_setIfInBounds,Ne.symm this]
def iR {T k e:TypeId} {g:Nat} {l:List (Int×Value)} {x:Int} {v:Value} (ht:P.underlying T=some (.map k e)) (hk:P.underlying k=some (.int .i64)) {w:World}
  {es:Array MapEntry} {c:Nat} (hb:w.heap[g]?=some (.map es c)) (h:gx l es.toList) (hst:MapKept.Stamped es c) :
  ∃es' c',(Instr.mapUpdate T (.map (some g)) (.int .i64 x) v).run P w=.ok () { w with heap:=w.heap.setIfInBounds g (.map es' c') }∧gx (cw l x v) es'.toList∧MapKept.Stamped es' c':=by
 cases hx:nj l x with
 | none=>
  refine ⟨es.push ⟨.int .i64 x,v,c⟩,c+1,?_,?_,MapKept.stamped_push hst (BM h hx)⟩
  ·simp [Instr.mapUpdate,run_underlying ht,MapKept.run_getObj_map hb,jM hk,run_findKey hk h,hx,MapKept.run_setObj_map _ hb]
  ·rw [Array.toList_push];exact DS h hx _ rfl
 | some q=>
  obtain ⟨j,u⟩:=q
  have hkey:∀old,old=Value.int .i64 x→(Instr.keyThatStays old (.int .i64 x)).run P w=.ok (.int .i64 x) w:=by
   rintro old rfl
   simp [Instr.keyThatStays,Instr.sameBits]
  have hold:((es[j]?).map (·.key)).getD (.int .i64 x)=.int .i64 x:=by
   have H:∀(l:List (Int×Value)) (es:List MapEntry),gx l es→∀j u,nj l x=some (j,u)→∃e,es[j]?=some e∧e.key=.int .i64 x:=by
    intro l
    induction l with
    | nil=>intro es _ j u hx;cases hx
    | cons p l ih=>
     intro es h j u hx
     cases es with
     | nil=>cases h
     | cons e es=>
      unfold gx at h
      rw [List.map_cons,List.map_cons] at h
      unfold nj at hx
      by_cases hp:p.1=x
      ·rw [if_pos hp] at hx
       cases hx
       exact ⟨e,rfl,by rw [← hp];exact congrArg Prod.fst (List.cons.inj h).1⟩
      ·rw [if_neg hp] at hx
       cases hi:nj l x with
       | none=>rw [hi] at hx;cases hx
       | some q=>
        rw [hi] at hx
        cases hx
        obtain ⟨e',h1,h2⟩:=ih es (List.cons.inj h).2 _ _ hi
        exact ⟨e',by simpa using h1,h2⟩
   obtain ⟨e,he,hk⟩:=H l es.toList h j u hx
   have he:es[j]?=some e:=by simpa using he
   rw [he];exact hk
  refine ⟨es.modify j (fun e=>{ e with key:=.int .i64 x,val:=v }),c,?_,?_,MapKept.stamped_modify hst j _ (fun _ _=>rfl) (fun e _ hej=>by rw [hej] at hold;exact hold.symm)⟩
  ·simp only [Instr.mapUpdate,Sem.run_bind,run_underlying ht,Result.andThen_ok,MapKept.run_getObj_map hb,jM hk,run_findKey hk h,hx,hkey _ hold,MapKept.run_setObj_map _ hb]
  ·rw [Array.toList_modify];exact DZ h hx _ (fun _=>rfl)
def gG {q:Option (List Fact)} {o:Oper} {m:M} {t:List T} {kk:M→List T→T→Tree} {T0 k e:TypeId} {mo ko vo:Operand} {g:Nat} {l:List (Int×Value)} {x:Int} {v:Value} (fs:List Fact)
  (ho:o.op=.mapUpdate T0 mo ko vo) (h1:ev t mo=.v (.map (some g))) (h2:ev t ko=.v (.int .i64 x)) (h3:ev t vo=.v v) (ht:P.underlying T0=some (.map k e)) (hk:P.underlying k=some (.int .i64))
  (hm:bL g l∈m.facts) (hW:W.heap.size≤g∨some g=G) (hfs:∀ψ∈fs,(ψ∈m.facts∧ψ.g≠some g)∨ψ=bL g (cw l x v)) (h:(kk { m with facts:=fs } t (.v undef)).aD P W G Q ds) (hq:∀F,q=some F→∃ψ∈F,ψ.g=some g:=by (intro F h;cases h)):(Tree.op q o m t kk).aD P W G Q ds:=by
 intro β ρ a w hM hr K Q' hK
 obtain ⟨dst,op,ty',pos,after,guard⟩:=o
 simp only at ho
 subst ho
 have e1:=hr.ev mo
 rw [h1] at e1
 have e1:a.eval mo=.map (some g):=e1
 have e2:=hr.ev ko
 rw [h2] at e2
 have e2:a.eval ko=.int .i64 x:=e2
 have e3:=hr.ev vo
 rw [h3] at e3
 have e3:a.eval vo=v:=e3
 obtain ⟨_,ob,hob,es,c,rfl,he,hst⟩:=hM.fact _ hm g rfl
 obtain ⟨es',c',hrun,he',hst'⟩:=iR (x:=x) (v:=v) ht hk hob he hst
 obtain ⟨hgr,hnew⟩:=pZ (o':=.map es' c') hob
 unfold Oper.wp
 have hrun':(execOp a.eval ⟨dst,.mapUpdate T0 mo ko vo,ty',pos,after,guard⟩).run P w=.ok .skip { w with heap:=w.heap.setIfInBounds g (.map es' c') }:=by
  simp [execOp,e1,e2,e3,hrun]
 rw [hrun']
 refine hK _ t (.v undef) β ρ _ undef h (hM.turn hm rfl hW hgr fun ψ hψ=>?_) hr rfl (fun F h=>⟨rfl,rfl,(hq F h).elim fun ψ hψ=>.inr ⟨ψ,hψ.1,g,hψ.2,hW,hgr⟩⟩)
 rcases hfs ψ hψ with h | rfl
 ·exact .inl h
 ·exact .inr ⟨rfl,_,hnew,es',c',rfl,he',hst'⟩
def gK {q:Option (List Fact)} {o:Oper} {m:M} {t:List T} {kk:M→List T→T→Tree} {T0 k e:TypeId} {mo ko vo:Operand} {g:Nat} {l:List (Int×Value)} {x:Int} {v:Value} (fs:List Fact)
  (ho:o.op=.insert T0 mo ko vo) (h1:ev t mo=.v (.map (some g))) (h2:ev t ko=.v (.int .i64 x)) (h3:ev t vo=.v v) (ht:P.underlying T0=some (.map k e)) (hk:P.underlying k=some (.int .i64))
  (hm:bL g l∈m.facts) (hW:W.heap.size≤g∨some g=G) (hfs:∀ψ∈fs,(ψ∈m.facts∧ψ.g≠some g)∨ψ=bL g (cw l x v)) (h:(kk { m with facts:=fs } t (.v undef)).aD P W G Q ds) (hq:∀F,q=some F→∃ψ∈F,ψ.g=some g:=by (intro F h;cases h)):(Tree.op q o m t kk).aD P W G Q ds:=by
 intro β ρ a w hM hr K Q' hK
 obtain ⟨dst,op,ty',pos,after,guard⟩:=o
 simp only at ho
 subst ho
 have e1:=hr.ev mo
 rw [h1] at e1
 have e1:a.eval mo=.map (some g):=e1
 have e2:=hr.ev ko
 rw [h2] at e2
 have e2:a.eval ko=.int .i64 x:=e2
 have e3:=hr.ev vo
 rw [h3] at e3
 have e3:a.eval vo=v:=e3
 obtain ⟨_,ob,hob,es,c,rfl,he,hst⟩:=hM.fact _ hm g rfl
 obtain ⟨es',c',hrun,he',hst'⟩:=iR (x:=x) (v:=v) ht hk hob he hst
 obtain ⟨hgr,hnew⟩:=pZ (o':=.map es' c') hob
 unfold Oper.wp
 have hrun':(execOp a.eval ⟨dst,.insert T0 mo ko vo,ty',pos,after,guard⟩).run P w=.ok .skip { w with heap:=w.heap.setIfInBounds g (.map es' c') }:=by
  simp [execOp,e1,e2,e3,hrun]
 rw [hrun']
 refine hK _ t (.v undef) β ρ _ undef h (hM.turn hm rfl hW hgr fun ψ hψ=>?_) hr rfl (fun F h=>⟨rfl,rfl,(hq F h).elim fun ψ hψ=>.inr ⟨ψ,hψ.1,g,hψ.2,hW,hgr⟩⟩)
 rcases hfs ψ hψ with h | rfl
 ·exact .inl h
 ·exact .inr ⟨rfl,_,hnew,es',c',rfl,he',hst'⟩
def vw {o:Oper} {m:M} {t:List T} {kk:M→List T→T→Tree} {T0 k e:TypeId} {mo ko:Operand} {g:Nat} {l:List (Int×Value)} {x:Int} (fs:List Fact)
  (ho:o.op=.call ⟨.builtin .delete,#[mo,ko],#[T0,k]⟩) (h1:ev t mo=.v (.map (some g))) (h2:ev t ko=.v (.int .i64 x)) (ht:P.underlying T0=some (.map k e)) (hk:P.underlying k=some (.int .i64))
  (hm:bL g l∈m.facts) (hW:W.heap.size≤g∨some g=G) (hfs:∀ψ∈fs,(ψ∈m.facts∧ψ.g≠some g)∨ψ=bL g (ie l x)) (h:(kk { m with facts:=fs } t (.v (.tuple #[]))).aD P W G Q ds):(Tree.op none o m t kk).aD P W G Q ds:=by
 intro β ρ a w hM hr K Q' hK
 obtain ⟨dst,op,ty',pos,after,guard⟩:=o
 simp only at ho
 subst ho
 have e1:=hr.ev mo
 rw [h1] at e1
 have e1:a.eval mo=.map (some g):=e1
 have e2:=hr.ev ko
 rw [h2] at e2
 have e2:a.eval ko=.int .i64 x:=e2
 obtain ⟨_,ob,hob,es,c,rfl,he,hst⟩:=hM.fact _ hm g rfl
 obtain ⟨es',hrun,he',hst'⟩:∃es',(Builtin.delete_ #[T0,k] ty' #[.map (some g),.int .i64 x]).run P w=.ok (.tuple #[]) { w with heap:=w.heap.setIfInBounds g (.map es' c) }∧gx (ie l x) es'.toList∧MapKept.Stamped es' c:=by
  cases hx:nj l x with
  | none=>
   refine ⟨es,?_,by rw [D5 hx];exact he,hst⟩
   simp [Builtin.delete_,run_underlying ht,MapKept.run_getObj_map hob,jM hk,run_findKey hk he,hx,MapKept.run_setObj_map _ hob]
  | some q=>
   obtain ⟨j,u⟩:=q
   obtain ⟨d1,d2⟩:=Ef he hx
   refine ⟨es.eraseIdxIfInBounds j,?_,?_,MapKept.stamped_erase hst j⟩
   ·simp [Builtin.delete_,run_underlying ht,MapKept.run_getObj_map hob,jM hk,run_findKey hk he,hx,MapKept.run_setObj_map _ hob]
   ·have:(es.eraseIdxIfInBounds j).toList=es.toList.eraseIdx j:=by
     unfold Array.eraseIdxIfInBounds
     rw [dif_pos (by simpa using d2)]
     simp
    rw [this];exact d1
 obtain ⟨hgr,hnew⟩:=pZ (o':=.map es' c) hob
 unfold Oper.wp
 have hrun':(execOp a.eval ⟨dst,.call ⟨.builtin .delete,#[mo,ko],#[T0,k]⟩,ty',pos,after,guard⟩).run P w=.ok (.value (.tuple #[])) { w with heap:=w.heap.setIfInBounds g (.map es' c) }:=by
  simp [execOp,resolve,invoke,builtin,e1,e2,hrun]
 rw [hrun']
 refine hK _ t (.v (.tuple #[])) β ρ _ _ h (hM.turn hm rfl hW hgr fun ψ hψ=>?_) hr rfl (fun F h=>by cases h)
 rcases hfs ψ hψ with h | rfl
 ·exact .inl h
 ·exact .inr ⟨rfl,_,hnew,es',c,rfl,he',hst'⟩
end
end Go.Proofs.YtdbjakibneeeiaaGreatDoor.Sx
namespace Go.Proofs.YtdbjakibneeeiaaGreatDoor.Sx
open Go.RowKit
section
variable {P : Program} {W : World} {G : Option Nat} {Q : Ending → World → Prop} {ds : List Deferred}
def Bf {E:Env} (hE:E.Ok P) {q:Option (List Fact)} {o:Oper} {m:M} {t:List T} {k:M→List T→T→Tree} {x y:Operand} {ty e:TypeId} {size bytes n b j:Nat} {v:Value} {xs news:List Value} {te:TypeId} (fs:List Fact)
  (ho:o.op=.call ⟨.builtin .append,#[x,y],#[ty,ty]⟩) (hrow:lk E.row ty=some (e,size,bytes)) (hx:ev t x=.v v) (hy:ev t y=.s b j) (hb:m.own[b]?=some (some (news.map T.v,te))) (hj:news.length=j*size)
  (hF:gB v e size n xs∈m.facts) (hV:TV W v n) (hl:xs.length=n*size) (h63:n+j≤maxLen) (hby:(n+j)*bytes≤140737488355328)
  (hq:∀F,q=some F→v=.slice none 0 0∨∃ψ∈F,ψ.g=v.ownBlock) (hfs:∀ψ∈fs,ψ∈m.facts∧∀g,ψ.g=some g→v.ownBlock≠some g)
  (h:∀v',TV W v' (n+j)→(∀ψ∈fs,∀g,ψ.g=some g→v'.ownBlock≠some g)→(k { m with facts:=gB v' e size (n+j) (xs++news)::fs } t (.v v')).aD P W G Q ds):(Tree.op q o m t k).aD P W G Q ds:=by
 intro β ρ a w hm hr K Q' hK
 obtain ⟨dst,op,ty',pos,after,guard⟩:=o
 simp only at ho
 subst ho
 have h1:=hr.ev x
 rw [hx] at h1
 have h1:a.eval x=v:=h1
 have h2:=hr.ev y
 rw [hy] at h2
 obtain ⟨g2,hg2,h2⟩:=h2
 obtain ⟨g3,l,hg3,hw3,hr3,ho3⟩:=hm.own b _ te hb
 rw [hg2] at hg3
 cases hg3
 have hr3:=tV hr3
 subst hr3
 obtain ⟨ht,i,z,hi,hz,hsize,hbb,hzs,hsz⟩:=hE.row ty e size bytes hrow
 have hown:=iP hm hF hV hl
 obtain ⟨v',w',hrun,hown',hgr,hwhere⟩:=nS (P:=P) (w:=w) ty ty' e i z size bytes ht hi hz hsize hbb hzs hsz hown (some ⟨g2,0,none⟩) j j l hj (fun a0 ha0 jj u hu=>by
  cases ha0
  simp only [eW,World.cell?]
  rw [hw3]
  simpa using hu) ho3 (fun hn=>by cases hn) h63 hby hm.grown.size
 unfold Oper.wp
 have:(execOp a.eval ⟨dst,.call ⟨.builtin .append,#[x,y],#[ty,ty]⟩,ty',pos,after,guard⟩).run P w=.ok (.value v') w':=by
  simp [execOp,resolve,invoke,builtin,h1,h2,hrun]
 rw [this]
 have hTV:=vc hown'
 have hfo:=qW hown'
 have hnew:∀{w0:World},w0=w→∀g,(gB v' e size (n+j) (xs++l)).g=some g→v'.ownBlock=some w.heap.size→lB m β ρ g:=fun _ g hg he=>by
  have e1:g=w.heap.size:=by
   have:v'.ownBlock=some g:=hg
   rw [he] at this
   exact (Option.some.inj this).symm
  exact hm.apart (.inr (.inl (by omega)))
 have hap:∀ψ∈fs,∀g,ψ.g=some g→v'.ownBlock≠some g:=fun ψ hψ g hg e=>by
  rcases hwhere with he | ⟨he,_⟩
  ·exact (hfs ψ hψ).2 g hg (he▸e)
  ·obtain ⟨_,o,ho,_⟩:=hm.fact ψ (hfs ψ hψ).1 g hg
   have h8:=(Array.getElem?_eq_some_iff.1 ho).1
   rw [he] at e
   cases e
   omega
 rcases hV with ⟨rfl,hn⟩ | ⟨g,cap,rfl,hgW⟩
 ·have hbel:Below w.heap.size w w':=⟨hgr.os,hgr.tape,hgr.output,hgr.size,fun k hk=>hgr.block k hk (by simp [Value.ownBlock])⟩
  refine hK _ t (.v v') β ρ w' v' (h v' hTV hap) ?_ hr rfl (fun F hq=>⟨rfl,rfl,.inl hbel⟩)
  have h5:Mem W G { m with facts:=fs } β ρ w':=by
   have:=hm.grow hbel
   exact ⟨this.grown,this.nd,this.bl,this.lo,this.own,this.rl,this.row,this.rb,this.rows,fun φ hφ=>this.fact φ (hfs φ hφ).1⟩
  refine h5.eA [gB v' e size (n+j) (xs++l)] fun φ hφ g hg=>?_
  simp only [List.mem_singleton] at hφ
  subst hφ
  refine ⟨?_,(hfo g hg).2⟩
  rcases hwhere with he | ⟨he,_⟩
  ·have h7:v'.ownBlock=some g:=hg
   rw [he] at h7
   cases h7
  ·exact hnew rfl g hg he
 ·refine hK _ t (.v v') β ρ w' v' (h v' hTV hap) ?_ hr rfl (fun F hF'=>⟨rfl,rfl,.inr ?_⟩)
  ·rcases hwhere with he | ⟨he,_⟩
   ·refine hm.turn hF rfl (.inl hgW) hgr fun ψ hψ=>?_
    rcases List.mem_cons.1 hψ with rfl | hψ
    ·exact .inr ⟨he,(hfo g he).2⟩
    ·refine .inl ⟨(hfs ψ hψ).1,fun hg=>(hfs ψ hψ).2 g hg rfl⟩
   ·have h5:Mem W G { m with facts:=fs } β ρ w':=hm.turn hF rfl (.inl hgW) hgr fun ψ hψ=>.inl ⟨(hfs ψ hψ).1,fun hg=>(hfs ψ hψ).2 g hg rfl⟩
    refine h5.eA [gB v' e size (n+j) (xs++l)] fun φ hφ g hg=>?_
    simp only [List.mem_singleton] at hφ
    subst hφ
    exact ⟨hnew rfl g hg he,(hfo g hg).2⟩
  ·rcases hq F hF' with h | ⟨ψ,h1,h2⟩
   ·cases h
   ·exact ⟨ψ,h1,g,h2,.inl hgW,hgr⟩
end
end Go.Proofs.YtdbjakibneeeiaaGreatDoor.Sx
