/- Rows that came in: where they lie. -/
import Derived.Test.YtdbjakibneeeiaaGreatDoorKRow
import Derived.OpenShut
import Derived.Deep.Slices
import Derived.ChangeOld
set_option linter.all false
set_option maxHeartbeats 4000000
set_option maxRecDepth 100000
namespace Go.Proofs.YtdbjakibneeeiaaGreatDoor.Sx
open Go.RowKit
def zy {W:World} {b off:Nat} {xs:List Value} (h0:0<xs.length) (h:∀(i:Nat) (u:Value),xs[i]?=some u→W.cell? ⟨b,off+i,none⟩=some u):At W (some ⟨b,off,none⟩) xs:=by
 have h1:=h 0 xs[0] (List.getElem?_eq_getElem h0)
 intro g hg
 cases hg
 show ∃o,W.heap[b]?=some o∧_
 cases ho:W.heap[b]? with
 | none=>simp [World.cell?,ho] at h1
 | some o=>
  cases o with
  | cells cur e fr=>
   refine ⟨_,rfl,fun ad had=>?_⟩
   cases had
   refine ⟨rfl,cur,e,fr,rfl,fun j u hu=>?_⟩
   have:=h j u hu
   simpa [World.cell?,ho] using this
  | _=>simp [World.cell?,ho] at h1
def BU {W:World} {xs:List Value}:At W none xs:=fun g hg=>by cases hg
def Qa {W:World} {a:Addr} {n:Nat} {xs:List Value} (h1:n≠0→0<xs.length) (h:∀(i:Nat) (u:Value),xs[i]?=some u→W.cell? (a.add i)=some u):At W (pt (some a) n) xs:=by
 by_cases h0:n=0
 ·rw [show pt (some a) n=none from if_pos h0]
  exact BU
 ·rw [show pt (some a) n=some a from if_neg h0]
  have hp:=h1 h0
  have hz:=h 0 xs[0] (List.getElem?_eq_getElem hp)
  obtain ⟨b,off,sp⟩:=a
  have hsp:sp=none:=by simpa [Addr.add] using World.cell?_spot hz
  subst hsp
  exact zy hp fun i u hu=>by have:=h i u hu;rwa [Sx.eW] at this
end Go.Proofs.YtdbjakibneeeiaaGreatDoor.Sx
namespace Go.Proofs.YtdbjakibneeeiaaGreatDoor.Sx
open Go.RowKit Go.ChangeShapes Go.WideShapes
inductive Sh where
 | int
 | bool
 | str
 | num (k:Nat)
 | flat (l:List Sh)
 | row (e:Sh)
inductive D where
 | i (n:Int)
 | b (x:Bool)
 | s (x:ByteArray)
 | t (l:List D)
 | l (l:List D)
mutual
def Sh.size:Sh→Nat
 | .int=>1
 | .bool=>1
 | .str=>1
 | .num _=>1
 | .flat l=>Sh.sizes l
 | .row _=>1
def Sh.sizes:List Sh→Nat
 | []=>0
 | s::l=>s.size+Sh.sizes l
end
def Sh.wz (s:Sh):∀n,Sh.sizes (List.replicate n s)=n*s.size
 | 0=>by simp [Sh.sizes]
 | n+1=>by rw [List.replicate_succ,Sh.sizes,Sh.wz s n,Nat.add_mul];omega
def Fits (n:Int):Prop:=-9223372036854775808≤n∧n<9223372036854775808
mutual
inductive Typed (P:Program):TypeId→Sh→Prop
 | int {t} (h:P.underlying t=some (.int .i64)) (hc:P.cellsOf t=1):Typed P t .int
 | bool {t} (h:P.underlying t=some .bool) (hc:P.cellsOf t=1):Typed P t .bool
 | str {t} (h:P.underlying t=some .string) (hc:P.cellsOf t=1):Typed P t .str
 | row {t e s} (h:P.underlying t=some (.slice e)) (hc:P.cellsOf t=1) (he:Typed P e s) (h0:0<s.size):Typed P t (.row s)
 | struct {t fs l} (h:P.underlying t=some (.struct fs)) (hl:pW P fs.toList 0 l) (hc:P.cellsOf t=Sh.sizes l):Typed P t (.flat l)
 | array {t e n s} (h:P.underlying t=some (.array n e)) (he:Typed P e s) (hc:P.cellsOf t=n*s.size):Typed P t (.flat (List.replicate n s))
inductive pW (P:Program):List Field→Nat→List Sh→Prop
 | nil {o}:pW P [] o []
 | cons {f fs o s l} (h:f.offset=o) (hf:Typed P f.type s) (hl:pW P fs (o+s.size) l):pW P (f::fs) o (s::l)
end
def Typed.size {P t s} (h:Typed P t s):P.cellsOf t=s.size:=by
 cases h with
 | int _ hc=>exact hc
 | bool _ hc=>exact hc
 | str _ hc=>exact hc
 | row _ hc _ _=>exact hc
 | struct _ _ hc=>exact hc
 | array _ _ hc=>rw [hc];exact (Sh.wz _ _).symm
mutual
inductive lK (w:World):Sh→List Value→D→Prop
 | int {n} (h:Fits n):lK w .int [.int .i64 n] (.i n)
 | bool {x}:lK w .bool [.bool x] (.b x)
 | str {x} (h:x.size≤maxLen):lK w .str [.string x] (.s x)
 | flat {l vs ds} (h:jh w l vs ds):lK w (.flat l) vs (.t ds)
 | row {e a n c xs ds} (hs:Sl a n c) (hn:n=ds.length) (hl:mW w e xs ds) (ha:At w (pt a n) xs):lK w (.row e) [.slice a n c] (.l ds)
inductive jh (w:World):List Sh→List Value→List D→Prop
 | nil:jh w [] [] []
 | cons {s vs d l us ds} (h:lK w s vs d) (hl:jh w l us ds):jh w (s::l) (vs++us) (d::ds)
inductive mW (w:World):Sh→List Value→List D→Prop
 | nil {e}:mW w e [] []
 | cons {e vs d us ds} (h:lK w e vs d) (hl:mW w e us ds):mW w e (vs++us) (d::ds)
end
mutual
def lK.length {w:World}:∀{s:Sh} {vs:List Value} {d:D},lK w s vs d→vs.length=s.size
 | _,_,_,.int _=>rfl
 | _,_,_,.bool=>rfl
 | _,_,_,.str _=>rfl
 | _,_,_,.flat h=>jh.length h
 | _,_,_,.row _ _ _ _=>rfl
def jh.length {w:World}:∀{l:List Sh} {vs:List Value} {ds:List D},jh w l vs ds→vs.length=Sh.sizes l
 | _,_,_,.nil=>rfl
 | _,_,_,.cons h hl=>by rw [List.length_append,lK.length h,jh.length hl];rfl
end
def mW.length {w:World} {e:Sh}:∀{vs:List Value} {ds:List D},mW w e vs ds→vs.length=ds.length*e.size
 | _,_,.nil=>by simp
 | _,_,.cons h hl=>by rw [List.length_append,lK.length h,mW.length hl,List.length_cons,Nat.add_mul];omega
def za {w:World} {e:Sh} {f:Nat→List Value} {g:Nat→D}:∀(n k:Nat),(∀i,i<n→lK w e (f (k+i)) (g (k+i)))→mW w e ((List.range' k n).flatMap f) ((List.range' k n).map g)
 | 0,k,h=>by simpa using mW.nil
 | n+1,k,h=>by
  rw [List.range'_succ,List.flatMap_cons,List.map_cons]
  refine .cons (by simpa using h 0 (by omega)) (za n (k+1) fun i hi=>?_)
  have:=h (i+1) (by omega)
  rwa [show k+(i+1)=k+1+i from by omega] at this
def zA {f:Nat→List Value} {s:Nat} (h0:0<s):∀(n k:Nat),(∀i,i<n→(f (k+i)).length=s)→∀(j:Nat) (u:Value),((List.range' k n).flatMap f)[j]?=some u→j / s<n∧(f (k+j / s))[j % s]?=some u
 | 0,k,h,j,u,hu=>by simp at hu
 | n+1,k,h,j,u,hu=>by
  rw [List.range'_succ,List.flatMap_cons] at hu
  have hl:=h 0 (by omega)
  simp only [Nat.add_zero] at hl
  rcases Nat.lt_or_ge j s with hj | hj
  ·rw [List.getElem?_append_left (by omega)] at hu
   rw [Nat.div_eq_of_lt hj,Nat.mod_eq_of_lt hj]
   exact ⟨by omega,by simpa using hu⟩
  ·rw [List.getElem?_append_right (by omega),hl] at hu
   obtain ⟨h1,h2⟩:=zA h0 n (k+1) (fun i hi=>by have:=h (i+1) (by omega);rwa [show k+(i+1)=k+1+i from by omega] at this) _ u hu
   have e1:j / s=(j - s) / s+1:=by
    have:j=(j - s)+s:=by omega
    rw [this,Nat.add_div_right _ h0]
    simp
   have e2:j % s=(j - s) % s:=by
    have:j=(j - s)+s:=by omega
    rw [this,Nat.add_mod_right]
    simp
   rw [e1,e2]
   refine ⟨by omega,?_⟩
   rwa [show k+((j - s) / s+1)=k+1+(j - s) / s from by omega]
section
variable {H : Type} {enc : TypeId × Value → H} {P : Program} {W : World} {base : Nat} {spare : Nat → Bool} {held : Bool}
def qE {get:Field→Option (DataW H×List MemPlace)} {cs:List Value} (ih:∀{f:Field} {s:Sh} {x:DataW H×List MemPlace},Typed P f.type s→get f=some x→∃d,lK W s ((cs.drop f.offset).take s.size) d) :
  ∀{fs:List Field} {o:Nat} {l:List Sh},pW P fs o l→(∀f∈fs,∃x,get f=some x)→cs.length=o+Sh.sizes l→∃ds,jh W l (cs.drop o) ds
 | _,_,_,.nil,_,hl=>by
  rw [List.drop_eq_nil_of_le (by simp [Sh.sizes] at hl;omega)]
  exact ⟨[],.nil⟩
 | _,o,s::l,.cons (f:=f) (fs:=fs) hoff hf htl,h,hl=>by
  obtain ⟨x,hx⟩:=h f List.mem_cons_self
  obtain ⟨d,hd⟩:=ih hf hx
  rw [Sh.sizes] at hl
  obtain ⟨ds,hds⟩:=qE ih htl (fun g hg=>h g (List.mem_cons_of_mem _ hg)) (by omega)
  rw [hoff] at hd
  refine ⟨d::ds,?_⟩
  have:=jh.cons hd hds
  rwa [← List.drop_drop,List.take_append_drop] at this
def tT {cs:List Value} {e:Sh}:∀(n k:Nat),cs.length=(k+n)*e.size→(∀i,i<n→∃d,lK W e ((cs.drop ((k+i)*e.size)).take e.size) d)→∃ds,jh W (List.replicate n e) (cs.drop (k*e.size)) ds
 | 0,k,hl,h=>by
  rw [List.drop_eq_nil_of_le (by simp at hl;omega)]
  exact ⟨[],.nil⟩
 | n+1,k,hl,h=>by
  obtain ⟨d,hd⟩:=h 0 (by omega)
  obtain ⟨ds,hds⟩:=tT n (k+1) (by rw [hl];congr 1;omega) (fun i hi=>by have:=h (i+1) (by omega);rwa [show k+(i+1)=k+1+i from by omega] at this)
  refine ⟨d::ds,?_⟩
  have:=jh.cons hd hds
  rw [Nat.add_zero,show (k+1)*e.size=k*e.size+e.size from by rw [Nat.add_mul,Nat.one_mul],← List.drop_drop,List.take_append_drop] at this
  exact this
def Hq (w:World) (a:Addr) (xs:List Value):Prop:=∀(j:Nat) (u:Value),xs[j]?=some u→w.cell? (a.add j)=some u
def xp:∀(fuel:Nat) {t:TypeId} {s:Sh} {cs:List Value} {x:DataW H×List MemPlace},Typed P t s→DataW.trod enc P W base spare held fuel t cs=some x→∃d,lK W s cs d:=by
 intro fuel
 induction fuel with
 | zero=>intro t s cs x _ h;simp [DataW.trod] at h
 | succ fuel ih=>
  intro t s cs x ht h
  cases ht with
  | int hu hc=>
   obtain ⟨n,hcs,-,hw⟩:=DataW.trod_int hu h
   subst hcs
   simp [Lit.wf,IntKind.min,IntKind.max,IntKind.signed,IntKind.bits] at hw
   exact ⟨_,.int ⟨by omega,by omega⟩⟩
  | bool hu hc=>
   obtain ⟨n,hcs,-⟩:=DataW.trod_bool hu h
   subst hcs
   exact ⟨_,.bool⟩
  | str hu hc=>
   obtain ⟨n,hcs,-,hw⟩:=DataW.trod_string hu h
   subst hcs
   exact ⟨_,.str hw⟩
  | @row _ e s hu hc he h0=>
   have hsz:=he.size
   rcases DataW.trod_slice hu h with ⟨hcs,_⟩ | ⟨a,len,cap,elems,rest,n,hf,hcs,_,_,hl,hm,hel,hx,_⟩
   ·subst hcs
    exact ⟨_,.row (ds:=[]) ⟨Nat.le_refl _,by simp [maxLen],fun _=>⟨rfl,rfl⟩⟩ rfl .nil BU⟩
   ·obtain rfl:fuel=n:=by omega
    subst hcs
    have each:∀i,∃q:List Value×D,i<len→Hq W (a.add (i*s.size)) q.1∧q.1.length=s.size∧lK W s q.1 q.2:=by
     intro i
     by_cases hi:i<len
     ·have h1:=hx i hi
      rw [List.getElem?_eq_getElem (by omega)] at h1
      cases hc2:W.cells? base (a.add (i*P.cellsOf e)) (P.cellsOf e) with
      | none=>rw [hc2] at h1;cases h1
      | some cs'=>
       rw [hc2] at h1
       obtain ⟨d,hd⟩:=ih he h1
       obtain ⟨_,hlen,hcell⟩:=World.cells?_some hc2
       rw [hsz] at hlen hcell
       refine ⟨(cs',d),fun _=>⟨fun j u hu=>?_,hlen,hd⟩⟩
       have hj:j<s.size:=by rw [← hlen];exact (List.getElem?_eq_some_iff.1 hu).1
       exact (hcell j hj).trans hu
     ·exact ⟨([],.b true),fun h=>absurd h hi⟩
    obtain ⟨f,hf⟩:=Classical.axiomOfChoice each
    have hN:=za (w:=W) (e:=s) (f:=fun i=>(f i).1) (g:=fun i=>(f i).2) len 0 (fun i hi=>by rw [Nat.zero_add];exact (hf i hi).2.2)
    refine ⟨_,.row (ds:=(List.range' 0 len).map fun i=>(f i).2) ⟨hl,hm,fun hn=>by cases hn⟩ (by simp) hN (Qa (fun hn=>?_) fun j u hu=>?_)⟩
    ·rw [hN.length]
     simp only [List.length_map,List.length_range']
     exact Nat.mul_pos (by omega) h0
    ·obtain ⟨h1,h2⟩:=zA (f:=fun i=>(f i).1) h0 len 0 (fun i hi=>by rw [Nat.zero_add];exact (hf i hi).2.1) j u hu
     rw [Nat.zero_add] at h2
     have:=(hf _ h1).1 _ _ h2
     rwa [Addr.add_add,Nat.mul_comm,Nat.div_add_mod] at this
  | @struct _ fs l hu hl hc=>
   obtain ⟨xs,m,hf,_,hlen,hn,hi⟩:=DataW.trod_struct hu h
   obtain rfl:fuel=m:=by omega
   obtain ⟨ds,hds⟩:=qE (W:=W) (cs:=cs) (get:=fun f=>DataW.trod enc P W base spare held fuel f.type ((cs.drop f.offset).take (P.cellsOf f.type)))
    (fun {f s x} hf hx=>ih hf (by rw [← hf.size];exact hx)) hl (fun f hf=>by
     obtain ⟨i,hi1,hi2⟩:=List.getElem_of_mem hf
     have h1:fs[i]?=some f:=by
      rw [← Array.getElem?_toList,List.getElem?_eq_getElem hi1,hi2]
     have h2:=hi i f h1
     have h3:i<xs.length:=by rw [hn];simpa using hi1
     exact ⟨_,h2.trans (List.getElem?_eq_getElem h3)⟩) (by rw [hlen,hc];omega)
   exact ⟨_,.flat (by simpa using hds)⟩
  | @array _ e n s hu he hc=>
   obtain ⟨xs,m,hf,_,hlen,hn,hi⟩:=DataW.trod_array hu h
   obtain rfl:fuel=m:=by omega
   obtain ⟨ds,hds⟩:=tT (W:=W) (cs:=cs) (e:=s) n 0 (by rw [hlen,hc];simp) (fun i hin=>by
    have h2:=hi i hin
    rw [he.size] at h2
    rw [Nat.zero_add]
    exact ih he (h2.trans (List.getElem?_eq_getElem (by omega))))
   exact ⟨_,.flat (by simpa using hds)⟩
end
end Go.Proofs.YtdbjakibneeeiaaGreatDoor.Sx

