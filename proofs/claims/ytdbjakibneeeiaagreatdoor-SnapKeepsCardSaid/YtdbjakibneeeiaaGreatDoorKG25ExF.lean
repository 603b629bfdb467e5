/- What code comes to, reckoned: data in, data out. -/
import Derived.Test.YtdbjakibneeeiaaGreatDoorKG24DxN
import Derived.Laws.StructEq
import Derived.ChangeKeysEq
set_option linter.all false
set_option maxHeartbeats 4000000
set_option maxRecDepth 100000
namespace Go.Proofs.YtdbjakibneeeiaaGreatDoor.Sx
open Go.RowKit
structure ESm where
 ps:List Sh
 rs:List Sh
 F:DenL ps→Option (DenL rs)
structure EFr where
 ps:List Sh
 s:Sh
 e:TypeId
 size:Nat
 F:DenL ps→Option (List (Den s))
def ESm.toS (S:ESm):Smry:=⟨S.ps,S.rs,fun x=>(S.F x).isSome=true,fun x=>(S.F x).getD (Sh.zL S.rs)⟩
def EFr.toS (S:EFr):Frsh:=⟨S.ps,S.s,S.e,S.size,fun x=>(S.F x).isSome=true,fun x=>(S.F x).getD []⟩
structure EE where
 sy:List (TypeId×Sh)
 sm:List (FuncId×ESm)
 fr:List (FuncId×EFr)
 idc:List ((TypeId×TypeId)×Unit)
def mapS {α β γ:Type} (f:β→γ):List (α×β)→List (α×γ)
 | []=>[]
 | (a,b)::l=>(a,f b)::mapS f l
def EE.toD (D:EE):DE:=⟨D.sy,mapS ESm.toS D.sm,mapS EFr.toS D.fr,D.idc⟩
theorem lk_mapS {α β γ:Type} [BEq α] (f:β→γ):∀(l:List (α×β)) (x:α),lk (mapS f l) x=(lk l x).map f
 | [],x=>rfl
 | (a,b)::l,x=>by
  simp only [mapS,lk]
  cases a==x with
  | true=>rfl
  | false=>exact lk_mapS f l x
variable {R : Type}
def gd (b:Bool) (o:Option R):Option R:=match b with | true=>o | false=>none
theorem gd_some {b:Bool} {o:Option R} {r:R}:gd b o=some r↔b=true∧o=some r:=by
 cases b with
 | true=>exact ⟨fun h=>⟨rfl,h⟩,fun h=>h.2⟩
 | false=>exact ⟨fun h=>(by cases h),fun h=>(by cases h.1)⟩
def xbr (c:Bool) (x y:Option R):Option R:=match c with | true=>x | false=>y
theorem xbr_d {c:Bool} {x y:Option R} {r:R} {p q:Prop} (h:xbr c x y=some r) (h1:x=some r→p) (h2:y=some r→q):dbr c p q:=by
 cases c
 ·exact h2 h
 ·exact h1 h
class Same (R:Type) where
 eq:R→R→Bool
 of:∀{x y:R},eq x y=true→x=y
def both [Same R] (x y:Option R):Option R:=match x,y with
 | some a,some b=>gd (Same.eq a b) (some a)
 | _,_=>none
theorem both_some [Same R] {x y:Option R} {r:R} (h:both x y=some r):x=some r∧y=some r:=by
 unfold both at h
 split at h
 ·rw [gd_some] at h
  obtain ⟨h1,h2⟩:=h
  have:=Same.of h1
  subst this
  exact ⟨h2,h2⟩
 ·cases h
def inI (x:Int):Bool:=decide (-9223372036854775808≤x)&&decide (x≤9223372036854775807)
theorem inI_iff {x:Int}:inI x=true↔-9223372036854775808≤x∧x≤9223372036854775807:=by simp [inI]
def inR (j:Int) (n:Nat):Bool:=decide (0≤j)&&decide (j<(n:Int))
theorem inR_iff {j:Int} {n:Nat}:inR j n=true↔0≤j∧j<(n:Int):=by simp [inR]
abbrev XK (R:Type):=MD→List TD→TD→Option R
abbrev XM (R:Type):=MD→List TD→Option R
def xload (E:Env) (st:Bool) (ty:TypeId) (a:TD) (md0 md:MD) (td:List TD) (k:XK R):Option R:=
 match lk E.agg ty with
 | none=>none
 | some ag=>match a with
  | .p b off=>match (md0.own[b]?).join with
   | some (cs,_)=>match dtake ag cs off with
    | some x=>k md td x
    | none=>none
   | none=>none
  | .q i sz j off=>match (md0.rows[i]?).join with
   | some r=>match dtake ag (cellsD r.s (r.l.getD j (Sh.z r.s))) off with
    | some x=>gd (sz==r.size) (gd (decide (j<r.l.length)) (k md td x))
    | none=>none
   | none=>none
  | .e s L j off=>match dtake ag (cellsD s (L.getD j (Sh.z s))) off with
   | some x=>gd st (gd (decide (j<L.length)) (k md td x))
   | none=>none
  | _=>none
def xshare0 (sy:List (TypeId×Sh)) (x:TD) (md:MD) (td:List TD) (k:TD→MD→List TD→Option R):Option R:=
 match x with
 | .any=>none
 | .r i=>match (md.rows[i]?).join with
  | some r=>k (.d r.s r.l) (MD.mapO { md with rows:=md.rows.set i none } (dsubR i (.d r.s r.l))) (td.map (dsubR i (.d r.s r.l)))
  | none=>none
 | .s b n=>match (md.own[b]?).join with
  | some (cs,ty)=>match lk sy ty with
   | some s=>match packN s n cs with
    | some L=>gd (dvals cs&&Nat.ble n 1000) (k (.d s L) (MD.mapO { md with own:=md.own.set b none } (dsubS b n (.d s L))) (td.map (dsubS b n (.d s L))))
    | none=>none
   | none=>none
  | none=>none
 | x=>k x md td
def xshareIn (sy:List (TypeId×Sh)):List TD→MD→List TD→XM R→Option R
 | [],md,td,k=>k md td
 | x::l,md,td,k=>xshare0 sy x md td (fun _ md td=>xshareIn sy l md td k)
def xshareOne (sy:List (TypeId×Sh)) (x:TD) (md:MD) (td:List TD) (k:TD→MD→List TD→Option R):Option R:=
 match x with
 | .s b n=>match (md.own[b]?).join with
  | some (cs,_)=>xshareIn sy cs md td (fun md td=>xshare0 sy (.s b n) md td k)
  | none=>none
 | x=>xshare0 sy x md td k
def xshareAll (sy:List (TypeId×Sh)):List TD→MD→List TD→(List TD→MD→List TD→Option R)→Option R
 | [],md,td,k=>k [] md td
 | x::l,md,td,k=>xshareOne sy x md td (fun y md td=>xshareAll sy l md td (fun ys md td=>k (y::ys) md td))
def xcall (D:EE) (g:FuncId) (xs:List TD) (md:MD) (td:List TD) (k:XK R):Option R:=
 match lk D.sm g with
 | some S=>match packA S.ps xs with
  | some x=>match S.F x with
   | some y=>k md td (resTD S.rs y)
   | none=>none
  | none=>none
 | none=>none
def xmake (D:EE) (g:FuncId) (e:TypeId) (size:Nat) (xs:List TD) (md:MD) (td:List TD) (k:XK R):Option R:=
 match lk D.fr g with
 | some S=>match packA S.ps xs with
  | some x=>gd (e==S.e&&size==S.size&&size==S.s.size) (match S.F x with
   | some y=>k { md with rows:=md.rows++[some ⟨e,size,S.s,y⟩] } td (.r md.rows.length)
   | none=>none)
  | none=>none
 | none=>none
def xcallT (E:Env) (D:EE) (q:Bool) (g:FuncId) (args:List TD) (md:MD) (td:List TD) (k:XK R):Option R:=
 match howOf E q g with
 | none=>xshareAll D.sy args md td (fun xs md td=>xcall D g xs md td k)
 | some (.fresh e size)=>xshareAll D.sy args md td (fun xs md td=>xmake D g e size xs md td k)
 | _=>none
def xbinT (tw:Bool) (op:BinOp) (a b:Int) (k:TD→Option R):Option R:=
 match op with
 | .add=>match tw with | true=>k (.v (.int .i64 (IntKind.i64.wrap (a+b)))) | false=>gd (inI (a+b)) (k (.v (.int .i64 (a+b))))
 | .sub=>match tw with | true=>k (.v (.int .i64 (IntKind.i64.wrap (a - b)))) | false=>gd (inI (a - b)) (k (.v (.int .i64 (a - b))))
 | .mul=>match tw with | true=>k (.v (.int .i64 (IntKind.i64.wrap (a*b)))) | false=>gd (inI (a*b)) (k (.v (.int .i64 (a*b))))
 | .eql=>k (.v (.bool (a==b)))
 | .neq=>k (.v (.bool (a != b)))
 | .lss=>k (.v (.bool (decide (a<b))))
 | .leq=>k (.v (.bool (decide (a≤b))))
 | .gtr=>k (.v (.bool (decide (a>b))))
 | .geq=>k (.v (.bool (decide (a≥b))))
 | _=>none
def xstore (E:Env) (D:EE) (ty:TypeId) (a x:TD) (md:MD) (td:List TD) (k:XK R):Option R:=
 match a with
 | .p b off=>match x with
  | .r i=>match (md.own[b]?).join,lk E.agg ty with
   | some (cs,e),some none=>gd ((md.rows[i]?).join.isSome&&Nat.blt off cs.length&&E.keep) (k (md.setOwn b (cs.set off (.r i)) e) td (.v undef))
   | _,_=>none
  | .any=>none
  | x=>xshareOne D.sy x md td (fun x md td=>match (md.own[b]?).join with
   | some (cs,e)=>match dcells x,lk E.agg ty with
    | some xs,some n=>gd (xs.length==n.getD 1&&Nat.ble (off+xs.length) cs.length&&dones xs) (k (md.setOwn b (spl cs off xs) e) td (.v undef))
    | _,_=>none
   | none=>none)
 | .q i sz j off=>match (md.rows[i]?).join,dcells x,lk E.agg ty with
  | some r,some xs,some n=>match packD r.s (spl (cellsD r.s (r.l.getD j (Sh.z r.s))) off xs) with
   | some (y,[])=>gd (xs.length==n.getD 1&&dones xs&&dvals xs&&sz==r.size&&Nat.ble (off+xs.length) r.s.size) (gd (decide (j<r.l.length)) (k { md with rows:=md.rows.set i (some ⟨r.e,r.size,r.s,r.l.set j y⟩) } td (.v undef)))
   | _=>none
  | _,_,_=>none
 | _=>none
def xindexAddr (E:Env) (ty:TypeId) (x i:TD) (md:MD) (td:List TD) (k:XK R):Option R:=
 match lk E.row ty with
 | some (_,size,_)=>match x,i with
  | .d s L,.v (.int .i64 j)=>gd (size==s.size) (gd (inR j L.length) (k md td (.e s L j.toNat 0)))
  | .r q,.v (.int .i64 j)=>match (md.rows[q]?).join with
   | some r=>gd (r.size==size) (gd (inR j r.l.length) (k md td (.q q size j.toNat 0)))
   | none=>none
  | _,_=>none
 | none=>match x,i with
  | .p b o,.v (.int .i64 j)=>match lk E.arr ty with
   | some (n,size)=>gd (inR j n) (k md td (.p b (o+j.toNat*size)))
   | none=>none
  | _,_=>none
def xappR (D:EE) (e:TypeId) (size bytes:Nat) (i:Nat) (r:RowD) (y:TD) (md:MD) (td:List TD) (k:XK R):Option R:=
 match (match y with
  | .s b n=>match (md.own[b]?).join with
   | some (cs,_)=>bif dvals cs then packN r.s n cs else none
   | none=>none
  | .d s L=>Sh.castB s r.s L
  | .v (.slice none 0 0)=>some []
  | _=>none) with
 | some L=>gd (Nat.ble (r.l.length+L.length) maxLen&&Nat.ble ((r.l.length+L.length)*bytes) 140737488355328) (k (MD.mapO { md with rows:=md.rows.set i (some ⟨e,size,r.s,r.l++L⟩) } (dsubR i .any)) (td.map (dsubR i .any)) (.r i))
 | none=>none
def xappT (D:EE) (e:TypeId) (size bytes:Nat) (x y:TD) (md:MD) (td:List TD) (k:XK R):Option R:=
 match x with
 | .r i=>match (md.rows[i]?).join with
  | some r=>gd (r.e==e&&r.size==size) (xappR D e size bytes i r y md td k)
  | none=>none
 | .v (.slice none 0 0)=>match lk D.sy e with
  | some s=>gd (s.size==size) (xappR D e size bytes md.rows.length ⟨e,size,s,[]⟩ y { md with rows:=md.rows++[some ⟨e,size,s,[]⟩] } td k)
  | none=>none
 | _=>none
end Go.Proofs.YtdbjakibneeeiaaGreatDoor.Sx
namespace Go.Proofs.YtdbjakibneeeiaaGreatDoor.Sx
open Go.RowKit
def eqBy (a b:ByteArray):Bool:=decide (a=b)
def eqFs (P:Program) (g:TypeId→List Value→List Value→Option Bool):List Field→List Value→List Value→Option Bool
 | [],_,_=>some true
 | f::fs,xs,ys=>match f.name == "_" with
  | true=>none
  | false=>match g f.type ((xs.drop f.offset).take (P.cellsOf f.type)) ((ys.drop f.offset).take (P.cellsOf f.type)) with
   | none=>none
   | some a=>match eqFs P g fs xs ys with
    | some b=>some (a&&b)
    | none=>none
def eqT (P:Program):Nat→TypeId→List Value→List Value→Option Bool
 | 0,_,_,_=>none
 | d+1,t,xs,ys=>match P.underlying t with
  | some (.int .i64)=>match xs,ys with
   | [.int .i64 a],[.int .i64 b]=>some (a==b)
   | _,_=>none
  | some .bool=>match xs,ys with
   | [.bool a],[.bool b]=>some (a==b)
   | _,_=>none
  | some .string=>match xs,ys with
   | [.string a],[.string b]=>some (eqBy a b)
   | _,_=>none
  | some (.struct fs)=>match P.stoodInHeld t with
   | true=>none
   | false=>eqFs P (eqT P d) fs.toList xs ys
  | _=>none
def valT (P:Program) (t:TypeId) (xs:List Value):Value:=match P.underlying t with
 | some (.struct _)=>.agg xs.toArray
 | _=>xs.headD undef
theorem eqBy_list (a b:ByteArray):(a.toList==b.toList)=eqBy a b:=by
 rw [← beq_toListBytes]
 obtain ⟨⟨x⟩⟩:=a
 obtain ⟨⟨y⟩⟩:=b
 show ((⟨x⟩:Array UInt8)==⟨y⟩)=decide ((⟨⟨x⟩⟩:ByteArray)=⟨⟨y⟩⟩)
 rw [Bool.eq_iff_iff]
 simp
theorem part_val {P:Program} {t:TypeId} {xs:List Value} {off:Nat} {w:World} (h:(∃fs,P.underlying t=some (.struct fs))∨(∃d v,P.underlying t=some d∧(match d with | .struct _ | .array _ _=>true | _=>false)=false∧(xs.drop off).take (P.cellsOf t)=[v])):(part t xs.toArray off).run P w=.ok (valT P t ((xs.drop off).take (P.cellsOf t))) w:=by
 rcases h with ⟨fs,hu⟩ | ⟨d,v,hu,hd,hv⟩
 ·obtain ⟨i,hi⟩:=info_of_underlying hu
  have e:valT P t ((xs.drop off).take (P.cellsOf t))=.agg ((xs.drop off).take (P.cellsOf t)).toArray:=by unfold valT;rw [hu]
  rw [e]
  simp only [part,isAgg,Sem.run_bind,run_underlying hu,Result.andThen_ok,Sem.run_pure,if_true,run_sizeOf w hi]
  simp
 ·have hx:=getElem?_of_chunk (xs:=xs.toArray) (off:=off) (c:=P.cellsOf t) (a:=v) (by simpa using hv)
  have e:valT P t ((xs.drop off).take (P.cellsOf t))=v:=by
   unfold valT
   rw [hu,hv]
   cases d <;> first | rfl | cases hd
  rw [e]
  have hp:(isAgg t).run P w=.ok false w:=by
   simp only [isAgg,Sem.run_bind,run_underlying hu,Result.andThen_ok]
   cases d <;> first | rfl | cases hd
  simp only [part,Sem.run_bind,hp,Result.andThen_ok,Bool.false_eq_true,if_false,hx,Sem.run_pure]
theorem eqT_kind {P:Program}:∀{d:Nat} {t:TypeId} {xs ys:List Value} {c:Bool},eqT P d t xs ys=some c→(∃fs,P.underlying t=some (.struct fs))∨∃q v u,P.underlying t=some q∧(match q with | .struct _ | .array _ _=>true | _=>false)=false∧xs=[v]∧ys=[u]
 | 0,_,_,_,_,h=>by cases h
 | d+1,t,xs,ys,c,h=>by
  unfold eqT at h
  split at h
  ·rename_i hu
   split at h
   ·exact .inr ⟨_,_,_,hu,rfl,rfl,rfl⟩
   ·cases h
  ·rename_i hu
   split at h
   ·exact .inr ⟨_,_,_,hu,rfl,rfl,rfl⟩
   ·cases h
  ·rename_i hu
   split at h
   ·exact .inr ⟨_,_,_,hu,rfl,rfl,rfl⟩
   ·cases h
  ·rename_i fs hu
   exact .inl ⟨fs,hu⟩
  ·cases h
theorem eqT_run {P:Program}:∀{d:Nat} {t:TypeId} {xs ys:List Value} {c:Bool},eqT P d t xs ys=some c→∀{D:Nat},d≤D→∀w,(Op.equalIn D t (valT P t xs) (valT P t ys)).run P w=.ok c w
 | 0,_,_,_,_,h,_,_,_=>by cases h
 | d+1,t,xs,ys,c,h,D,hD,w=>by
  obtain ⟨D,rfl⟩:∃D',D=D'+1:=⟨D - 1,by omega⟩
  unfold eqT at h
  split at h
  ·rename_i hu
   split at h
   ·cases h
    unfold valT;rw [hu]
    exact run_equalIn_int w D t .i64 .i64 _ _ hu
   ·cases h
  ·rename_i hu
   split at h
   ·cases h
    unfold valT;rw [hu]
    exact run_equalIn_bool' w D t _ _ hu
   ·cases h
  ·rename_i hu
   split at h
   ·cases h
    unfold valT;rw [hu]
    rw [← eqBy_list]
    exact run_equalIn_string w D t _ _ hu
   ·cases h
  ·rename_i fs hu
   split at h
   ·cases h
   ·rename_i hp
    have hf:P.fieldsOf t=fs:=by unfold Program.fieldsOf;rw [hu]
    have e:∀xs:List Value,valT P t xs=.agg xs.toArray:=fun xs=>by unfold valT;rw [hu]
    rw [e,e,run_equalIn_struct w D t _ _ (by rw [hf];exact hu) hp,hf]
    have key:∀(l:List Field) {c:Bool} (w:World),eqFs P (eqT P d) l xs ys=some c→(Op.eqFields D xs.toArray ys.toArray l).run P w=.ok c w:=by
     intro l
     induction l with
     | nil=>intro c w h;cases h;rfl
     | cons f l ih=>
      intro c w h
      unfold eqFs at h
      split at h
      ·cases h
      ·rename_i hn
       split at h
       ·cases h
       ·rename_i a ha
        split at h
        ·rename_i b hb
         cases h
         have hn:f.name≠"_":=by simpa using hn
         have k1:∀w,(part f.type xs.toArray f.offset).run P w=.ok (valT P f.type ((xs.drop f.offset).take (P.cellsOf f.type))) w:=fun w=>part_val ((eqT_kind ha).imp id fun ⟨q,v,u,h1,h2,h3,h4⟩=>⟨q,v,h1,h2,h3⟩)
         have k2:∀w,(part f.type ys.toArray f.offset).run P w=.ok (valT P f.type ((ys.drop f.offset).take (P.cellsOf f.type))) w:=fun w=>part_val ((eqT_kind ha).imp id fun ⟨q,v,u,h1,h2,h3,h4⟩=>⟨q,u,h1,h2,h4⟩)
         have k3:=fun w=>eqT_run ha (D:=D) (by omega) w
         simp only [Op.eqFields,if_pos hn,Sem.run_bind,k1,k2,k3,Result.andThen_ok]
         cases a with
         | true=>simpa using ih w hb
         | false=>simp
        ·cases h
    exact key fs.toList w h
  ·cases h
def xagg (op:BinOp) (a b:Value):Option (List Value×List Value×Bool):=match a,b with
 | .agg xs,.agg ys=>match op with
  | .eql=>some (xs.toList,ys.toList,false)
  | .neq=>some (xs.toList,ys.toList,true)
  | _=>none
 | _,_=>none
def isStr (P:Program) (t:TypeId):Bool:=match P.underlying t with
 | some (.struct _)=>true
 | _=>false
def sgn (ng c:Bool):Bool:=match ng with | true=>!c | false=>c
theorem xagg_run {P:Program} {op:BinOp} {ty:TypeId} {x y:Operand} {a b:Value} {xs ys:List Value} {ng c:Bool} (h:xagg op a b=some (xs,ys,ng)) (hg:P.eqGuardType P.depth ty=false) (hs:isStr P ty=true) (he:eqT P 9 ty xs ys=some c) (w:World) :
  (do eqGuard op ty x y a b;pure (.value (← binOp op ty a b)):Sem Next).run P w=.ok (.value (.bool (sgn ng c))) w:=by
 have hu:∃fs,P.underlying ty=some (.struct fs):=by
  unfold isStr at hs
  split at hs
  ·rename_i fs hu;exact ⟨fs,hu⟩
  ·cases hs
 obtain ⟨fs,hu⟩:=hu
 have ev:∀zs:Array Value,valT P ty zs.toList=.agg zs:=fun zs=>by unfold valT;rw [hu]
 cases a with
 | agg xs'=>
  cases b with
  | agg ys'=>
   cases op with
   | eql=>
    cases h
    have k:=eqT_run he (D:=10000) (by omega) w
    rw [ev,ev] at k
    simp only [Sem.run_bind,run_eqGuard_agg w _ _ _ _ _ _ hg,run_eql_struct,k,Result.andThen_ok,Sem.run_pure,sgn]
   | neq=>
    cases h
    have k:=eqT_run he (D:=10000) (by omega) w
    rw [ev,ev] at k
    simp only [Sem.run_bind,run_eqGuard_agg w _ _ _ _ _ _ hg,run_neq_struct,k,Result.andThen_ok,Sem.run_pure,sgn]
   | _=>cases h
  | _=>cases h
 | _=>cases h
end Go.Proofs.YtdbjakibneeeiaaGreatDoor.Sx
namespace Go.Proofs.YtdbjakibneeeiaaGreatDoor.Sx
open Go.RowKit
def pvS {α:Type} (P:Program):Sem α→Option α
 | .pure a=>some a
 | .program k=>pvS P (k P)
 | _=>none
theorem pvS_run {α:Type} {P:Program}:∀{s:Sem α} {a:α},pvS P s=some a→∀w,s.run P w=.ok a w
 | .pure b,a,h,w=>by cases h;rfl
 | .program k,a,h,w=>pvS_run (s:=k P) h w
variable {R : Type}
def xprim (P:Program) (s:Sem Next) (k:Value→Option R):Option R:=match pvS P s with
 | some (.value v)=>k v
 | _=>none
theorem xprim_d {P:Program} {s:Sem Next} {ke:Value→Option R} {kd:Value→Prop} {r:R} (h:xprim P s ke=some r) (K:∀v,ke v=some r→kd v):dprim P s kd:=by
 unfold xprim at h
 split at h
 ·rename_i v e
  exact ⟨v,fun w=>pvS_run e w,K v h⟩
 ·cases h
def xcmp (P:Program) (op:BinOp) (ty:TypeId) (x y:Operand) (a b:Value) (k:Value→Option R):Option R:=match xagg op a b with
 | some (xs,ys,ng)=>gd (!P.eqGuardType P.depth ty&&isStr P ty) (match eqT P 9 ty xs ys with
  | some c=>k (.bool (sgn ng c))
  | none=>none)
 | none=>xprim P (do eqGuard op ty x y a b;pure (.value (← binOp op ty a b))) k
theorem xcmp_d {P:Program} {op:BinOp} {ty:TypeId} {x y:Operand} {a b:Value} {ke:Value→Option R} {kd:Value→Prop} {r:R} (h:xcmp P op ty x y a b ke=some r) (K:∀v,ke v=some r→kd v):dprim P (do eqGuard op ty x y a b;pure (.value (← binOp op ty a b))) kd:=by
 unfold xcmp at h
 split at h
 ·rename_i xs ys ng e
  rw [gd_some,Bool.and_eq_true,Bool.not_eq_true'] at h
  obtain ⟨⟨h1,h2⟩,h⟩:=h
  split at h
  ·rename_i c hc
   exact ⟨_,fun w=>xagg_run e h1 h2 hc w,K _ h⟩
  ·cases h
 ·exact xprim_d h K
def xstep0 (P:Program) (E:Env) (D:EE) (o:Oper) (st:Bool) (md0 md:MD) (td:List TD) (k:XK R):Option R:=
 match o.op with
 | .move x=>k md td (dev td x)
 | .assign x=>k md td (dev td x)
 | .pick c a b=>match dev td c with
  | .v (.bool c)=>xbr c (k md td (dev td a)) (k md td (dev td b))
  | _=>none
 | .alloc e=>match lk E.zero e,lk D.sy e with
  | some cs,some s=>k (md.alloc (dzero s) e) td (.p md.own.length 0)
  | _,_=>none
 | .box e x=>match dcells (dev td x) with
  | some xs=>gd (dones xs) (k (md.alloc xs e) td (.p md.own.length 0))
  | none=>none
 | .load ty a=>xload E st ty (dev td a) md0 md td k
 | .store ty a x=>xstore E D ty (dev td a) (dev td x) md td k
 | .fieldAddr s x f=>match lk E.off (s,f) with
  | some d=>match dev td x with
   | .p b o=>k md td (.p b (o+d))
   | .q i sz j o=>k md td (.q i sz j (o+d))
   | .e s L j o=>k md td (.e s L j (o+d))
   | _=>none
  | none=>none
 | .indexAddr ty x i=>xindexAddr E ty (dev td x) (dev td i) md td k
 | .index ty x i=>match dnv (dev td x),dev td i with
  | .v u,.v b=>xprim P (do pure (.value (← Instr.index ty u b))) (fun v=>k md td (.v v))
  | _,_=>none
 | .binOp op ty x y z=>match dnv (dev td x),dnv (dev td y) with
  | .v (.int .i64 a),.v (.int .i64 b)=>match binOk op with
   | true=>xbinT E.turns op a b (fun v=>k md td v)
   | false=>xprim P (do eqGuard op ty x y (.int .i64 a) (.int .i64 b);pure (.value (← binOp op ty (.int .i64 a) (.int .i64 b)))) (fun v=>k md td (.v v))
  | .v a,.v b=>xcmp P op ty x y a b (fun v=>k md td (.v v))
  | _,_=>none
 | .unOp .not _ x=>match dev td x with
  | .v (.bool b)=>k md td (.v (.bool !b))
  | _=>none
 | .unOp .neg _ x=>match dev td x with
  | .v (.int .i64 a)=>gd (inI (-a)) (k md td (.v (.int .i64 (-a))))
  | _=>none
 | .convert src dst x=>match dev td x with
  | .v u=>xprim P (do pure (.value (← convert src dst u))) (fun v=>k md td (.v v))
  | .any=>none
  | y=>match lk D.idc (src,dst),dstep0.dvalQ y with
   | some _,true=>k md td y
   | _,_=>none
 | .extract x i=>match dev td x with
  | .u vs=>match vs[i]? with
   | some v=>k md td v
   | none=>none
  | .v (.tuple vs)=>match vs.toList[i]? with
   | some v=>k md td (.v v)
   | none=>none
  | _=>none
 | .build ty parts=>match lk E.str ty,lk D.sy ty with
  | some (_,places),some s=>match dfill places (dzero s) (parts.toList.map fun q=>(q.1,dev td q.2)) with
   | some cs=>gd (dvals cs) (k md td (.g cs))
   | none=>none
  | _,_=>none
 | .buildSlice ty n parts=>match lk E.row ty with
  | some (e,size,_)=>match lk D.sy e with
   | some s=>match n==0 with
    | true=>gd (!(E.quiet||parts.size != 0 || !(s.size==size))) (k { md with rows:=md.rows++[some ⟨e,size,s,[]⟩] } td (.r md.rows.length))
    | false=>match lk E.zero e,dfill (rowPlaces n size 0) (reps n (dzero s)) (parts.toList.map fun q=>(q.1,dev td q.2)) with
     | some _,some cs=>gd (dones cs&&s.size==size&&Nat.ble (n*size) 1000) (k (md.alloc cs e) td (.s md.own.length n))
     | _,_=>none
   | none=>none
  | none=>none
 | .makeSlice ty l c=>match lk E.row ty,dev td l,dev td c with
  | some (e,size,bytes),.v (.int .i64 j),.v (.int .i64 c)=>match lk E.zero e,lk D.sy e with
   | some _,some s=>gd (s.size==size&&(!E.quiet||E.made)) (gd (decide (0≤j)&&decide (j=c)&&decide (j≤140737488355328)&&Nat.ble (bytes*j.toNat) 140737488355328) (k { md with rows:=md.rows++[some ⟨e,size,s,List.replicate j.toNat (Sh.z s)⟩] } td (.r md.rows.length)))
   | _,_=>none
  | _,_,_=>none
 | .slice ty x lo hi none=>match lk E.row ty,dev td x with
  | some (_,size,_),.d s L=>match lo,hi with
   | none,some h=>match dev td h with
    | .v (.int .i64 j)=>gd (size==s.size) (gd (decide (0≤j)&&decide (j≤L.length)) (k md td (.d s (L.take j.toNat))))
    | _=>none
   | some l,none=>match dev td l with
    | .v (.int .i64 j)=>gd (size==s.size) (gd (decide (0≤j)&&decide (j≤L.length)) (k md td (.d s (L.drop j.toNat))))
    | _=>none
   | _,_=>none
  | _,.v u=>match lo,hi with
   | none,some h=>match dev td h with
    | .v b=>xprim P (do pure (.value (← Instr.sliceAt ty u none (some b) none))) (fun v=>k md td (.v v))
    | _=>none
   | some l,none=>match dev td l with
    | .v b=>xprim P (do pure (.value (← Instr.sliceAt ty u (some b) none none))) (fun v=>k md td (.v v))
    | _=>none
   | _,_=>none
  | _,_=>none
 | .field ty x i=>match dev td x with
  | .g cs=>match dfield P ty i cs with
   | some y=>k md td y
   | none=>none
  | .v u=>xprim P (do pure (.value (← Instr.field ty u i))) (fun v=>k md td (.v v))
  | _=>none
 | .call c=>match c.callee with
  | .value (.func g)=>xcallT E D false g (c.args.toList.map (dev td)) md td k
  | .value f=>match dfunc (dev td f) with
   | some g=>xcallT E D true g (c.args.toList.map (dev td)) md td k
   | none=>none
  | .builtin .len=>match c.args.toList,c.argTypes.toList with
   | [x],[ty]=>match dlen E ty (dev td x) md with
    | some v=>k md td (.v v)
    | none=>none
   | _,_=>none
  | .builtin .append=>match c.args.toList,c.argTypes.toList with
   | [x,y],[ty,ty2]=>match lk E.row ty with
    | some (e,size,bytes)=>gd (ty==ty2 && !E.quiet) (xappT D e size bytes (dev td x) (dev td y) md td k)
    | none=>none
   | _,_=>none
  | .builtin .min=>match dvalsOf (c.args.toList.map (dev td)) with
   | some vs=>xprim P (do pure (.value (← Builtin.min_ c.argTypes o.type (List.toArray vs)))) (fun v=>k md td (.v v))
   | none=>none
  | .builtin .max=>match dvalsOf (c.args.toList.map (dev td)) with
   | some vs=>xprim P (do pure (.value (← Builtin.max_ c.argTypes o.type (List.toArray vs)))) (fun v=>k md td (.v v))
   | none=>none
  | _=>none
 | _=>none
def xstep (P:Program) (E:Env) (D:EE) (o:Oper) (md:MD) (td:List TD) (k:XK R):Option R:=
 match dsafe o&&dcallV o td,dheld E o md td with
 | true,some none=>xstep0 P E D o true md md td k
 | true,some (some l)=>xshareAll D.sy l md td (fun _ md td=>xstep0 P E D o true md md td k)
 | _,_=>none
def xstepQ (P:Program) (E:Env) (D:EE) (o:Oper) (st:Bool) (md0 md:MD) (td:List TD) (k:XK R):Option R:=gd (!dbadQ E o td) (bif isMS E o then xstep0 P E D o false md0 md td (fun md td x=>xshareOne D.sy x md td (fun x md td=>k md td x)) else xstep0 P E D o st md0 md td k)
def xgo (P:Program) (E:Env) (D:EE) (X:Option (List Nat)) (o:Oper) (st:Bool) (md0 md:MD) (td:List TD) (k:XK R):Option R:=match X with
 | none=>xstep P E D o md td k
 | some _=>xstepQ P E D o st md0 md td k
def xcallF (E:Env) (D:EE) (q:Bool) (g:FuncId) (xs:List TD):Bool:=(howOf E q g).isNone&&xs.all dplain&&(match lk D.sm g with | some S=>rowFreeL S.rs | none=>false)
def xstillC (E:Env) (D:EE) (o:Oper) (td:List TD):Bool:=(dstill o && !isMS E o)||(match o.op with
 | .call c=>match c.callee with
  | .value (.func g)=>xcallF E D false g (c.args.toList.map (dev td))
  | _=>false
 | _=>false)
def xops (P:Program) (E:Env) (D:EE) (X:Option (List Nat)) (all:List Oper):List Oper→Bool→MD→MD→List TD→XM R→Option R
 | [],st,md0,md,td,k=>k md td
 | o::rest,st,md0,md,td,k=>
  match o.guard with
  | none=>gd (dokStore X md0.own.length o td) (xgo P E D X o st md0 md td (fun md' td' x=>dforceM md' (fun md'=>dforceT (dput td' o.dst x) (fun td2=>xops P E D X all rest (st&&xstillC E D o td) md0 md' td2 k))))
  | some (i,b)=>match (nth all i).bind (·.dst) with
   | none=>none
   | some j=>match dget td j with
    | .v (.bool c)=>xbr (c==b)
      (gd (dokStore X md0.own.length o td) (xgo P E D X o st md0 md (td.set j (.v (.bool b))) (fun md' td' x=>dforceM md' (fun md'=>dforceT (dput td' o.dst x) (fun td2=>xops P E D X all rest (st&&xstillC E D o (td.set j (.v (.bool b)))) md0 md' td2 k)))))
      (dforceT (dput (td.set j (.v (.bool !b))) o.dst (.v undef)) (fun td=>xops P E D X all rest st md0 md td k))
    | .v (.tuple _)=>dforceT (dput td o.dst (.v undef)) (fun td=>xops P E D X all rest st md0 md td k)
    | _=>none
def xtailS (P:Program) (E:Env) (D:EE) (all:List Oper):Ord→MD→List TD→XM R→Option R
 | .done,m,t,k=>k m t
 | .last i r,m,t,k=>xops P E D none all (picks all [i]) true m m t (fun m t=>xtailS P E D all r m t k)
 | _,_,_,_=>none
def xopsS [Same R] (P:Program) (E:Env) (D:EE) (X:Option (List Nat)) (all:List Oper):Nat→Ord→Bool→MD→MD→List TD→XM R→Option R
 | 0,_,_,_,_,_,_=>none
 | f+1,l,st,m0,m,t,k=>match l.spine.2 with
  | .done=>xops P E D X all (picks all l.spine.1) st m0 m t k
  | .last i r=>xops P E D X all (picks all l.spine.1) st m0 m t (fun m t=>xtailS P { E with quiet:=false } D all (.last i r) m t k)
  | .fork i r j s=>xops P E D X all (picks all l.spine.1) st m0 m t (fun m t=>both (xopsS P E D X all f (.one i r) (st&&(picks all l.spine.1).all ostill) m0 m t k) (xopsS P E D X all f (.one j s) (st&&(picks all l.spine.1).all ostill) m0 m t k))
  | .fork3 i r j s h u=>xops P E D X all (picks all l.spine.1) st m0 m t (fun m t=>both (xopsS P E D X all f (.one i r) (st&&(picks all l.spine.1).all ostill) m0 m t k) (both (xopsS P E D X all f (.one j s) (st&&(picks all l.spine.1).all ostill) m0 m t k) (xopsS P E D X all f (.one h u) (st&&(picks all l.spine.1).all ostill) m0 m t k)))
  | .now i r=>xops P E D X all (picks all l.spine.1) st m0 m t (fun m t=>xops P E D (some []) all (picks all [i]) true m m t (fun m t=>xopsS P E D X all f r false m0 m t k))
  | .one _ _=>none
end Go.Proofs.YtdbjakibneeeiaaGreatDoor.Sx
namespace Go.Proofs.YtdbjakibneeeiaaGreatDoor.Sx
open Go.RowKit
def eqN {α:Type} (f:α→α→Bool):List α→List α→Bool
 | [],[]=>true
 | x::l,y::k=>f x y&&eqN f l k
 | _,_=>false
theorem eqN_of {α:Type} {f:α→α→Bool} (hf:∀x y,f x y=true→x=y):∀{l k:List α},eqN f l k=true→l=k
 | [],[],_=>rfl
 | x::l,y::k,h=>by
  simp only [eqN,Bool.and_eq_true] at h
  rw [hf _ _ h.1,eqN_of hf h.2]
 | [],_::_,h=>by cases h
 | _::_,[],h=>by cases h
def eqW:Value→Value→Bool
 | .bool a,.bool b=>a==b
 | .int k a,.int l b=>decide (k=l)&&a==b
 | .float k a,.float l b=>decide (k=l)&&a==b
 | .complex k a b,.complex l c d=>decide (k=l)&&a==c&&b==d
 | .nilFunc,.nilFunc=>true
 | .nilIface,.nilIface=>true
 | .slice none a b,.slice none c d=>a==c&&b==d
 | .func (.func a) x y,.func (.func b) u v=>a==b&&(x.size==0&&(y.size==0&&(u.size==0&&v.size==0)))
 | _,_=>false
theorem eqW_of {a b:Value} (h:eqW a b=true):a=b:=by
 unfold eqW at h
 split at h <;> first
  | rfl
  | (cases h;done)
  | (simp only [Bool.and_eq_true,beq_iff_eq] at h
     obtain ⟨h1,h2,h3,h4,h5⟩:=h
     rw [h1,Array.eq_empty_of_size_eq_zero h2,Array.eq_empty_of_size_eq_zero h3,Array.eq_empty_of_size_eq_zero h4,Array.eq_empty_of_size_eq_zero h5])
  | (simp only [Bool.and_eq_true,decide_eq_true_eq,beq_iff_eq] at h;simp [h])
def eqS (a b:ByteArray):Bool:=decide (a=b)
theorem eqS_of {a b:ByteArray} (h:eqS a b=true):a=b:=of_decide_eq_true h
mutual
def Den.eqB:(s:Sh)→Den s→Den s→Bool
 | .int,x,y=>(show Int from x)==y
 | .bool,x,y=>(show Bool from x)==y
 | .str,x,y=>eqS x y
 | .num _,x,y=>eqW x y
 | .flat l,x,y=>DenL.eqB l x y
 | .row e,x,y=>eqN (Den.eqB e) x y
termination_by structural s=>s
def DenL.eqB:(l:List Sh)→DenL l→DenL l→Bool
 | [],_,_=>true
 | s::l,x,y=>Den.eqB s x.1 y.1&&DenL.eqB l x.2 y.2
termination_by structural l=>l
end
mutual
theorem Den.eqB_of:∀{s:Sh} {x y:Den s},Den.eqB s x y=true→x=y
 | .int,x,y,h=>eq_of_beq (α:=Int) h
 | .bool,x,y,h=>eq_of_beq (α:=Bool) h
 | .str,x,y,h=>eqS_of h
 | .num _,x,y,h=>eqW_of h
 | .flat l,x,y,h=>DenL.eqB_of (l:=l) h
 | .row e,x,y,h=>eqN_of (f:=Den.eqB e) (fun _ _=>Den.eqB_of (s:=e)) h
theorem DenL.eqB_of:∀{l:List Sh} {x y:DenL l},DenL.eqB l x y=true→x=y
 | [],_,_,_=>rfl
 | s::l,(a,x),(b,y),h=>by
  have h:(Den.eqB s a b&&DenL.eqB l x y)=true:=h
  rw [Bool.and_eq_true] at h
  rw [Den.eqB_of h.1,DenL.eqB_of h.2]
end
instance sameL (l:List Sh):Same (DenL l):=⟨DenL.eqB l,DenL.eqB_of⟩
def eqSum {α β:Type} [Same α] [Same β]:α ⊕ β→α ⊕ β→Bool
 | .inl a,.inl b=>Same.eq a b
 | .inr a,.inr b=>Same.eq a b
 | _,_=>false
theorem eqSum_of {α β:Type} [Same α] [Same β]:∀{x y:α ⊕ β},eqSum x y=true→x=y
 | .inl a,.inl b,h=>congrArg _ (Same.of h)
 | .inr a,.inr b,h=>congrArg _ (Same.of h)
 | .inl _,.inr _,h=>by cases h
 | .inr _,.inl _,h=>by cases h
instance sameS {α β:Type} [Same α] [Same β]:Same (α ⊕ β) where
 eq:=eqSum
 of:=eqSum_of
instance sameP {α β:Type} [Same α] [Same β]:Same (α×β):=⟨fun x y=>Same.eq x.1 y.1&&Same.eq x.2 y.2,fun {x y} h=>by
  rw [Bool.and_eq_true] at h
  exact Prod.ext (Same.of h.1) (Same.of h.2)⟩
instance sameE:Same Empty where
 eq:=fun x _=>(nomatch x)
 of:=fun {x} _=>(nomatch x)
def idx:List Nat→Nat→Option Nat
 | [],_=>none
 | x::l,b=>match x==b with
  | true=>some 0
  | false=>match idx l b with
   | some i=>some (i+1)
   | none=>none
def idxs (σ:List Nat):List (Nat×Nat)→Option (List (Nat×Nat))
 | []=>some []
 | (b,o)::l=>match idx σ b,idxs σ l with
  | some b',some l'=>some ((b',o)::l')
  | _,_=>none
def TD.ren (σ τ:List Nat) (x:TD):TD:=match x with
 | .p b o=>match idx σ b with
  | some b'=>.p b' o
  | none=>.any
 | .fn f c=>match idxs σ c with
  | some c'=>.fn f c'
  | none=>.any
 | .s b n=>match idx σ b with
  | some b'=>.s b' n
  | none=>.any
 | .r i=>match idx τ i with
  | some i'=>.r i'
  | none=>.any
 | .q i z j o=>match idx τ i with
  | some i'=>.q i' z j o
  | none=>.any
 | x=>x
def MD.ren (m:MD) (σ τ:List Nat):MD:=⟨σ.map fun b=>((m.own[b]?).join).map fun q=>(q.1.map (TD.ren σ τ),q.2),τ.map fun i=>(m.rows[i]?).join⟩
inductive HI where
 | any
 | p (b o:Nat)
 | r (i:Nat)
 | fn (f:FuncId) (c:List (Nat×Nat))
 | d (s:Sh)
def shs:List HI→List Sh
 | []=>[]
 | .d s::l=>s::shs l
 | _::l=>shs l
def an:Nat→List HI→List HI
 | 0,l=>l
 | n+1,l=>.any::an n l
def layS:(l:List HI)→DenL (shs l)→List TD
 | [],_=>[]
 | .any::l,x=>.any::layS l x
 | .p b o::l,x=>.p b o::layS l x
 | .r i::l,x=>.r i::layS l x
 | .fn f c::l,x=>.fn f c::layS l x
 | .d s::l,x=>tdOf s x.1::layS l x.2
def grabH:(h:HI)→(x:TD)→(l:List HI)→Option (DenL (shs l))→Option (DenL (shs (h::l)))
 | .any,_,_,r=>r
 | .p b o,x,l,r=>match x with
  | .p b' o'=>gd (b==b'&&o==o') r
  | _=>none
 | .r i,x,l,r=>match x with
  | .r i'=>gd (i==i') r
  | _=>none
 | .fn f c,x,l,r=>match x with
  | .fn f' c'=>gd (f==f'&&decide (c=c')) r
  | _=>none
 | .d s,x,l,r=>match packT s x with
  | some y=>match r with
   | some z=>some (y,z)
   | none=>none
  | none=>none
def grabS:(l:List HI)→List TD→Option (DenL (shs l))
 | [],t=>match t with
  | []=>some ()
  | _::_=>none
 | h::l,t=>match t with
  | []=>none
  | x::t=>grabH h x l (grabS l t)
def layC:(l:List HI)→DenL (shs l)→List TD
 | [],_=>[]
 | .any::l,x=>.any::layC l x
 | .p b o::l,x=>.p b o::layC l x
 | .r i::l,x=>.r i::layC l x
 | .fn f c::l,x=>.fn f c::layC l x
 | .d s::l,x=>cellsD s x.1++layC l x.2
def grabC:(l:List HI)→List TD→Option (DenL (shs l))
 | [],t=>match t with
  | []=>some ()
  | _::_=>none
 | .any::l,t=>none
 | .p b o::l,t=>match t with
  | .p b' o'::t=>gd (b==b'&&o==o') (grabC l t)
  | _=>none
 | .r i::l,t=>match t with
  | .r i'::t=>gd (i==i') (grabC l t)
  | _=>none
 | .fn f c::l,t=>match t with
  | .fn f' c'::t=>gd (f==f'&&decide (c=c')) (grabC l t)
  | _=>none
 | .d s::l,t=>match packD s t with
  | some (y,t)=>match grabC l t with
   | some z=>some (y,z)
   | none=>none
  | none=>none
def shO:List (Option (List HI×TypeId))→List (List Sh)
 | []=>[]
 | some (s,_)::l=>shs s::shO l
 | none::l=>shO l
def DenLL:List (List Sh)→Type
 | []=>Unit
 | l::r=>DenL l×DenLL r
def DenLL.eqB:(l:List (List Sh))→DenLL l→DenLL l→Bool
 | [],_,_=>true
 | l::r,x,y=>DenL.eqB l x.1 y.1&&DenLL.eqB r x.2 y.2
theorem DenLL.eqB_of:∀{l:List (List Sh)} {x y:DenLL l},DenLL.eqB l x y=true→x=y
 | [],_,_,_=>rfl
 | l::r,(a,x),(b,y),h=>by
  have h:(DenL.eqB l a b&&DenLL.eqB r x y)=true:=h
  rw [Bool.and_eq_true] at h
  rw [DenL.eqB_of h.1,DenLL.eqB_of h.2]
instance sameLL (l:List (List Sh)):Same (DenLL l):=⟨DenLL.eqB l,DenLL.eqB_of⟩
def layO:(l:List (Option (List HI×TypeId)))→DenLL (shO l)→List (Option (List TD×TypeId))
 | [],_=>[]
 | some (s,ty)::l,x=>some (layC s x.1,ty)::layO l x.2
 | none::l,x=>none::layO l x
def grabO:(l:List (Option (List HI×TypeId)))→List (Option (List TD×TypeId))→Option (DenLL (shO l))
 | [],_=>some ()
 | none::l,m=>match m with
  | []=>none
  | _::m=>grabO l m
 | some (s,ty)::l,m=>match m with
  | some (cs,ty')::m=>gd (ty==ty') (match grabC s cs with
   | some x=>match grabO l m with
    | some z=>some (x,z)
    | none=>none
   | none=>none)
  | _=>none
def shR:List (Option (TypeId×Nat×Sh))→List Sh
 | []=>[]
 | some (_,_,s)::l=>.row s::shR l
 | none::l=>shR l
def layR:(l:List (Option (TypeId×Nat×Sh)))→DenL (shR l)→List (Option RowD)
 | [],_=>[]
 | some (e,size,s)::l,x=>some ⟨e,size,s,x.1⟩::layR l x.2
 | none::l,x=>none::layR l x
def grabR:(l:List (Option (TypeId×Nat×Sh)))→List (Option RowD)→Option (DenL (shR l))
 | [],_=>some ()
 | none::l,m=>match m with
  | []=>none
  | _::m=>grabR l m
 | some (e,size,s)::l,m=>match m with
  | some r::m=>gd (e==r.e&&size==r.size) (match Sh.castB r.s s r.l with
   | some L=>match grabR l m with
    | some z=>some (L,z)
    | none=>none
   | none=>none)
  | _=>none
structure Lay where
 slots:List HI
 own:List (Option (List HI×TypeId)):=[]
 rows:List (Option (TypeId×Nat×Sh)):=[]
def hfits (nb nr:Nat):List HI→Bool
 | []=>true
 | .p b _::l=>Nat.blt b nb&&hfits nb nr l
 | .r i::l=>Nat.blt i nr&&hfits nb nr l
 | .fn _ c::l=>(c.all fun q=>Nat.blt q.1 nb)&&hfits nb nr l
 | _::l=>hfits nb nr l
def hfitsO (nb nr:Nat):List (Option (List HI×TypeId))→Bool
 | []=>true
 | some (l,_)::r=>hfits nb nr l&&hfitsO nb nr r
 | none::r=>hfitsO nb nr r
abbrev Lay.T (h:Lay):Type:=DenL (shs h.slots)×DenLL (shO h.own)×DenL (shR h.rows)
def lay (h:Lay) (x:h.T):MD×List TD:=(⟨layO h.own x.2.1,layR h.rows x.2.2⟩,layS h.slots x.1)
def grab (h:Lay) (m:MD) (t:List TD):Option h.T:=gd (hfits h.own.length h.rows.length h.slots&&hfitsO h.own.length h.rows.length h.own) (match grabS h.slots t with
 | some a=>match grabO h.own m.own with
  | some b=>match grabR h.rows m.rows with
   | some c=>some (a,b,c)
   | none=>none
  | none=>none
 | none=>none)
abbrev Nums:=List (Nat×Nat)×List (Nat×Nat)
def ascS:List HI→List TD→Nums→Nums
 | .p b _::l,.p b' _::t,n=>ascS l t ((b,b')::n.1,n.2)
 | .r i::l,.r i'::t,n=>ascS l t (n.1,(i,i')::n.2)
 | _::l,_::t,n=>ascS l t n
 | _,_,n=>n
def ascC:List HI→List TD→Nums→Nums
 | [],_,n=>n
 | .d s::l,t,n=>ascC l (t.drop s.size) n
 | .p b _::l,t,n=>match t with
  | .p b' _::t=>ascC l t ((b,b')::n.1,n.2)
  | _=>n
 | .r i::l,t,n=>match t with
  | .r i'::t=>ascC l t (n.1,(i,i')::n.2)
  | _=>n
 | _::l,t,n=>ascC l (t.drop 1) n
def ascO (m:MD):Nat→List (Option (List HI×TypeId))→Nums→Nums
 | _,[],n=>n
 | b,some (l,_)::r,n=>match lk n.1 b with
  | some b'=>match (m.own[b']?).join with
   | some (cs,_)=>ascO m (b+1) r (ascC l cs n)
   | none=>ascO m (b+1) r n
  | none=>ascO m (b+1) r n
 | b,none::r,n=>ascO m (b+1) r n
def lks (n:List (Nat×Nat)):Nat→Nat→Option (List Nat)
 | _,0=>some []
 | b,k+1=>match lk n b,lks n (b+1) k with
  | some b',some l=>some (b'::l)
  | _,_=>none
def nodupB:List Nat→Bool
 | []=>true
 | x::l=>!l.contains x&&nodupB l
def grabN (h:Lay) (m:MD) (t:List TD):Option h.T:=
 let n:=ascO m 0 h.own (ascS h.slots t ([],[]))
 match lks n.1 0 h.own.length,lks n.2 0 h.rows.length with
 | some σ,some τ=>gd (nodupB σ&&nodupB τ&&σ.all (fun b=>Nat.blt b m.own.length)&&τ.all (fun i=>Nat.blt i m.rows.length)) (grab h (m.ren σ τ) (t.map (TD.ren σ τ)))
 | _,_=>none
def ExT:List (Exit×Lay)→Type
 | []=>Empty
 | (_,h)::l=>h.T ⊕ ExT l
@[reducible] def exS:(l:List (Exit×Lay))→Same (ExT l)
 | []=>sameE
 | (_,h)::l=>@sameS _ _ inferInstance (exS l)
def exEq:Exit→Exit→Bool
 | .exit i,.exit j=>i==j
 | .goto i,.goto j=>i==j
 | .ret,.ret=>true
 | _,_=>false
theorem exEq_of {a b:Exit} (h:exEq a b=true):a=b:=by
 unfold exEq at h
 split at h <;> first | rfl | (rw [eq_of_beq h]) | cases h
def grabE:(l:List (Exit×Lay))→Exit→MD→List TD→Option (ExT l)
 | [],_,_,_=>none
 | (e,h)::l,e',m,t=>match exEq e e' with
  | true=>match grabN h m t with
   | some x=>some (.inl x)
   | none=>none
  | false=>match grabE l e' m t with
   | some y=>some (.inr y)
   | none=>none
abbrev XE (R:Type):=Exit→MD→List TD→Option R
def xs {α β R:Type} (y:α ⊕ β) (f:α→Option R) (g:β→Option R):Option R:=match y with | .inl x=>f x | .inr y=>g y
def xe {R:Type} (y:Empty):Option R:=Empty.elim y
def contE {R:Type}:(l:List (Exit×Lay))→ExT l→XE R→Option R
 | [],y,_=>xe y
 | (e,h)::l,y,k=>xs y (fun x=>k e (lay h x).1 (lay h x).2) (fun y=>contE l y k)
def xloop {S R:Type} (step:S→Option (S ⊕ R)) (n:Nat):S→Option R:=
 Nat.rec (motive:=fun _=>S→Option R) (fun _=>none) (fun _ ih x=>match step x with
  | some (.inl y)=>ih y
  | some (.inr r)=>some r
  | none=>none) n
def xmany:Nat:=10000000000000000000
inductive NilAt where
 | slot (d:Nat) (e:TypeId) (s:Sh)
 | cell (i d:Nat) (e:TypeId) (s:Sh)
 | share (i:Nat)
structure LH where
 nil:List NilAt:=[]
 label:Nat:=0
 head:Lay
 exits:List (Exit×Lay)
structure FH where
 sch:List (Nat×(Ord×List Nat)):=[]
 loops:List (Nat×LH):=[]
 pre:List (Nat×List Nat):=[]
 joins:List (Nat×Lay):=[]
def ckey:Code→Option Nat
 | .region id _ _=>some id
 | .seq a b=>match ckey a with
  | some i=>some i
  | none=>ckey b
 | .cond _ x y=>match ckey x with
  | some i=>some i
  | none=>ckey y
 | .block _ b=>ckey b
 | .loop b=>ckey b
 | .scope b=>ckey b
 | _=>none
def xnil {R:Type} (sy:List (TypeId×Sh)):List NilAt→MD→List TD→XM R→Option R
 | [],m,t,k=>k m t
 | .slot d e s::Z,m,t,k=>match t[d]? with
  | some (.v (.slice none 0 0))=>xnil sy Z { m with rows:=m.rows++[some ⟨e,s.size,s,[]⟩] } (t.set d (.r m.rows.length)) k
  | _=>none
 | .cell i d e s::Z,m,t,k=>match t[i]? with
  | some (.p b _)=>match (m.own[b]?).join with
   | some (cs,ty)=>match cs[d]? with
    | some (.v (.slice none 0 0))=>xnil sy Z { m with own:=m.own.set b (some (cs.set d (.r m.rows.length),ty)),rows:=m.rows++[some ⟨e,s.size,s,[]⟩] } t k
    | _=>none
   | none=>none
  | _=>none
 | .share i::Z,m,t,k=>match t[i]? with
  | some x=>xshareOne sy x m t (fun _ m t=>xnil sy Z m t k)
  | none=>none
def xend (h:LH):XE (h.head.T ⊕ ExT h.exits):=fun e m t=>match e with
 | .normal=>match grabN h.head m t with
  | some x=>some (.inl x)
  | none=>none
 | e=>match grabE h.exits e m t with
  | some y=>some (.inr y)
  | none=>none
def xendL (h:LH):XE (h.head.T ⊕ ExT h.exits):=fun e m t=>match e with
 | .goto l=>match l==h.label with
  | true=>match grabN h.head m t with
   | some x=>some (.inl x)
   | none=>none
  | false=>none
 | e=>match grabE h.exits e m t with
  | some y=>some (.inr y)
  | none=>none
abbrev XG:=Code→(R:Type)→Same R→MD→List TD→XE R→Option R
def xregion (P:Program) (E:Env) (D:EE) (H:FH) (id:Nat) (os:Array Oper) (draw:Bool) (R:Type) (S:Same R) (m:MD) (t:List TD) (k:XM R):Option R:=
 match draw with
 | false=>xops P E D none os.toList os.toList true m m t k
 | true=>match E.lead with
  | 0=>xshareAll D.sy ((E.pres id).map .r) m t fun _ m t=>match lk H.sch id with
   | some (l,X)=>gd (dalive m X) (xopsS P { E with quiet:=true } D (some X) os.toList (l.forks+1) l true (m.hide X) m t k)
   | none=>none
  | _=>none
def xexecG (P:Program) (E:Env) (D:EE) (H:FH) (G:XG):XG
 | .skip,R,S,m,t,k=>k .normal m t
 | .region id os draw,R,S,m,t,k=>match lk H.joins id with
  | none=>xregion P E D H id os draw R S m t (k .normal)
  | some h=>match xregion P E D H id os draw h.T inferInstance m t (fun m t=>grabN h m t) with
   | none=>none
   | some x=>k .normal (lay h x).1 (lay h x).2
 | .seq a b,R,S,m,t,k=>xexecG P E D H G a R S m t (fun e m t=>match e with
  | .normal=>xexecG P E D H G b R S m t k
  | e=>k e m t)
 | .cond c x y,R,S,m,t,k=>match dev t c with
  | .v (.bool b)=>xbr b (xexecG P E D H G x R S m (dsetB t c true) k) (xexecG P E D H G y R S m (dsetB t c false) k)
  | _=>none
 | .block id b,R,S,m,t,k=>xexecG P E D H G b R S m t (fun e m t=>match e with
  | .exit i=>match i==id with
   | true=>k .normal m t
   | false=>k (.exit i) m t
  | e=>k e m t)
 | .loop b,R,S,m,t,k=>match ckey b with
  | none=>none
  | some i=>match lk H.loops i with
   | none=>none
   | some h=>xnil D.sy h.nil m t fun m t=>match grabN h.head m t with
    | none=>none
    | some x=>match xloop (fun x=>xexecG P E D H G b (h.head.T ⊕ ExT h.exits) (@sameS _ _ inferInstance (exS h.exits)) (lay h.head x).1 (lay h.head x).2 (xend h)) xmany x with
     | none=>none
     | some y=>contE h.exits y k
 | .scope b,R,S,m,t,k=>match ckey b with
  | none=>none
  | some i=>match lk H.loops i with
   | none=>none
   | some h=>match findLabel b h.label with
    | none=>none
    | some rest=>gd (schedOk H.sch rest) (match xexecG P E D H G b (h.head.T ⊕ ExT h.exits) (@sameS _ _ inferInstance (exS h.exits)) m t (xendL h) with
     | none=>none
     | some (.inr y)=>contE h.exits y k
     | some (.inl x)=>match xloop (fun x=>G rest (h.head.T ⊕ ExT h.exits) (@sameS _ _ inferInstance (exS h.exits)) (lay h.head x).1 (lay h.head x).2 (xendL h)) xmany x with
      | none=>none
      | some y=>contE h.exits y k)
 | .exit id,R,S,m,t,k=>k (.exit id) m t
 | .label _,R,S,m,t,k=>k .normal m t
 | .goto l,R,S,m,t,k=>k (.goto l) m t
 | .ret,R,S,m,t,k=>k .ret m t
 | _,R,S,m,t,k=>none
def xexec (P:Program) (E:Env) (D:EE) (H:FH):XG:=xexecG P E D H (xexecG P E D H fun _ _ _ _ _ _=>none)
def xresAll {R:Type} (E:Env) (sy:List (TypeId×Sh)):List ResultVar→MD→List TD→(List TD→Option R)→Option R
 | [],m,t,k=>k []
 | .tmp i::l,m,t,k=>xshareOne sy (dget t i) m t (fun x m t=>gd (disV x) (xresAll E sy l m t (fun vs=>k (x::vs))))
 | .cell i ty::l,m,t,k=>match dget t i with
  | .p b off=>match (m.own[b]?).join,lk E.agg ty with
   | some (cs,_),some (some n)=>xshareAll sy (dsub cs off n) m t (fun xs m t=>gd (xs.all disV&&(xs.length==n)) (xresAll E sy l m t (fun vs=>k (.g xs::vs))))
   | some (cs,_),some none=>match cs[off]? with
    | some x=>xshareOne sy x m t (fun x m t=>gd (disV x) (xresAll E sy l m t (fun vs=>k (x::vs))))
    | none=>none
   | _,_=>none
  | _=>none
def xfin {R:Type} (E:Env) (D:EE) (rs:List ResultVar) (k:List TD→Option R):XE R:=fun e m t=>match e with
 | .normal=>xresAll E D.sy rs m t k
 | .ret=>xresAll E D.sy rs m t k
 | _=>none
def xfun (P:Program) (E:Env) (D:EE) (H:FH) (f:FuncId) (ps rs:List Sh) (x:DenL ps):Option (DenL rs):=
 match P.funcs[f]? with
 | none=>none
 | some fn=>match fn.body with
  | none=>none
  | some c=>xexec P { E with pre:=H.pre } D H c (DenL rs) (sameL rs) ⟨[],[]⟩ (tdsOf ps x++danys (fn.ntmps - ps.length)) (xfin { E with pre:=H.pre } D fn.results.toList (fun us=>packA rs us))
end Go.Proofs.YtdbjakibneeeiaaGreatDoor.Sx
namespace Go.Proofs.YtdbjakibneeeiaaGreatDoor.Sx
open Go.RowKit
variable {R : Type} {r : R} {E : Env} {b : List Fact} {P : Program} {D : EE}
theorem xload_d {st:Bool} {ty:TypeId} {a:TD} {md0 md:MD} {td:List TD} {ke:XK R} {kd:DK} (h:xload E st ty a md0 md td ke=some r) (K:∀md td x,ke md td x=some r→kd md td x):dload { E with base:=b } st ty a md0 md td kd:=by
 unfold xload at h
 unfold dload
 cases h1:lk E.agg ty with
 | none=>rw [h1] at h;cases h
 | some ag=>
  rw [h1] at h
  simp only at h
  split at h
  ·split at h
   ·rename_i cs x e1
    split at h
    ·rename_i y e2
     simp only [e1,e2]
     exact K _ _ _ h
    ·cases h
   ·cases h
  ·split at h
   ·rename_i q e1
    split at h
    ·rename_i y e2
     simp only [gd_some] at h
     simp only [e1,e2,h.1,cond_true]
     exact ⟨trivial,of_decide_eq_true h.2.1,K _ _ _ h.2.2⟩
    ·cases h
   ·cases h
  ·split at h
   ·rename_i y e2
    simp only [gd_some] at h
    simp only [e2,h.1,cond_true]
    exact ⟨trivial,of_decide_eq_true h.2.1,K _ _ _ h.2.2⟩
   ·cases h
  ·cases h
theorem xshare0_d {sy:List (TypeId×Sh)} {x:TD} {md:MD} {td:List TD} {ke:TD→MD→List TD→Option R} {kd:TD→MD→List TD→Prop} (h:xshare0 sy x md td ke=some r) (K:∀x md td,ke x md td=some r→kd x md td):dshare0 sy x md td kd:=by
 cases x with
 | any=>cases h
 | r i=>
  unfold xshare0 at h
  unfold dshare0
  dsimp only at h ⊢
  split at h
  ·rename_i q e1
   simp only [e1]
   exact K _ _ _ h
  ·cases h
 | s b n=>
  unfold xshare0 at h
  unfold dshare0
  dsimp only at h ⊢
  split at h
  ·rename_i cs ty e1
   split at h
   ·rename_i s e2
    split at h
    ·rename_i L e3
     simp only [gd_some] at h
     simp only [e1,e2,e3,h.1,cond_true]
     exact K _ _ _ h.2
    ·cases h
   ·cases h
  ·cases h
 | _=>exact K _ _ _ h
theorem xshareIn_d {sy:List (TypeId×Sh)}:∀{l:List TD} {md:MD} {td:List TD} {ke:XM R} {kd:DM},xshareIn sy l md td ke=some r→(∀md td,ke md td=some r→kd md td)→dshareIn sy l md td kd
 | [],md,td,ke,kd,h,K=>K _ _ h
 | x::l,md,td,ke,kd,h,K=>xshare0_d h fun _ md td h=>xshareIn_d (l:=l) h K
theorem xshareOne_d {sy:List (TypeId×Sh)} {x:TD} {md:MD} {td:List TD} {ke:TD→MD→List TD→Option R} {kd:TD→MD→List TD→Prop} (h:xshareOne sy x md td ke=some r) (K:∀x md td,ke x md td=some r→kd x md td):dshareOne sy x md td kd:=by
 cases x with
 | s b n=>
  unfold xshareOne at h
  unfold dshareOne
  dsimp only at h ⊢
  split at h
  ·rename_i cs ty e1
   simp only [e1]
   exact xshareIn_d h fun md td h=>xshare0_d h K
  ·cases h
 | _=>
  unfold xshareOne at h
  unfold dshareOne
  dsimp only at h ⊢
  exact xshare0_d h K
theorem xshareAll_d {sy:List (TypeId×Sh)}:∀{l:List TD} {md:MD} {td:List TD} {ke:List TD→MD→List TD→Option R} {kd:List TD→MD→List TD→Prop},xshareAll sy l md td ke=some r→(∀l md td,ke l md td=some r→kd l md td)→dshareAll sy l md td kd
 | [],md,td,ke,kd,h,K=>K _ _ _ h
 | x::l,md,td,ke,kd,h,K=>xshareOne_d h fun y md td h=>xshareAll_d (l:=l) h fun l md td h=>K _ _ _ h
theorem toD_sm {g:FuncId}:lk D.toD.sm g=(lk D.sm g).map ESm.toS:=lk_mapS _ _ _
theorem toD_fr {g:FuncId}:lk D.toD.fr g=(lk D.fr g).map EFr.toS:=lk_mapS _ _ _
theorem xcall_d {g:FuncId} {xs:List TD} {md:MD} {td:List TD} {ke:XK R} {kd:DK} (h:xcall D g xs md td ke=some r) (K:∀md td x,ke md td x=some r→kd md td x):dcall D.toD g xs md td kd:=by
 unfold xcall at h
 unfold dcall
 rw [toD_sm]
 split at h
 ·rename_i S e1
  rw [e1]
  simp only [Option.map_some]
  split at h
  ·rename_i x e2
   have e2:packA S.toS.ps xs=some x:=e2
   split at h
   ·rename_i y e3
    rw [e2]
    simp only
    refine ⟨by show (S.F x).isSome=true;rw [e3];rfl,fun _=>?_⟩
    have:S.toS.F x=y:=by show (S.F x).getD _=y;rw [e3];rfl
    rw [this]
    exact K _ _ _ h
   ·cases h
  ·cases h
 ·cases h
theorem xmake_d {g:FuncId} {e:TypeId} {size:Nat} {xs:List TD} {md:MD} {td:List TD} {ke:XK R} {kd:DK} (h:xmake D g e size xs md td ke=some r) (K:∀md td x,ke md td x=some r→kd md td x):dmake D.toD g e size xs md td kd:=by
 unfold xmake at h
 unfold dmake
 rw [toD_fr]
 split at h
 ·rename_i S e1
  rw [e1]
  simp only [Option.map_some]
  split at h
  ·rename_i x e2
   have e2:packA S.toS.ps xs=some x:=e2
   rw [gd_some] at h
   obtain ⟨h1,h⟩:=h
   split at h
   ·rename_i y e3
    rw [e2]
    simp only
    rw [show (e==S.toS.e&&size==S.toS.size&&size==S.toS.s.size)=true from h1]
    simp only [cond_true]
    refine ⟨by show (S.F x).isSome=true;rw [e3];rfl,?_⟩
    have:S.toS.F x=y:=by show (S.F x).getD _=y;rw [e3];rfl
    rw [this]
    exact K _ _ _ h
   ·cases h
  ·cases h
 ·cases h
theorem xcallT_d {q:Bool} {g:FuncId} {args:List TD} {md:MD} {td:List TD} {ke:XK R} {kd:DK} (h:xcallT E D q g args md td ke=some r) (K:∀md td x,ke md td x=some r→kd md td x):dcallT { E with base:=b } D.toD q g args md td kd:=by
 unfold xcallT at h
 unfold dcallT
 split at h
 ·rename_i e1
  rw [show howOf { E with base:=b } q g=_ from e1];dsimp only
  exact xshareAll_d h fun l md td h=>xcall_d h K
 ·rename_i e1
  rw [show howOf { E with base:=b } q g=_ from e1];dsimp only
  exact xshareAll_d h fun l md td h=>xmake_d h K
 ·cases h
theorem xbinT_d {tw:Bool} {op:BinOp} {x y:Int} {ke:TD→Option R} {kd:TD→Prop} (h:xbinT tw op x y ke=some r) (K:∀x,ke x=some r→kd x):dbinT tw op x y kd:=by
 cases op <;> simp only [xbinT,dbinT] at h ⊢ <;> first
  | (cases h;done)
  | exact K _ h
  | (cases tw
     ·simp only [gd_some,inI_iff] at h
      exact ⟨h.1,K _ h.2⟩
     ·exact K _ h)
theorem xstore_d {ty:TypeId} {a x:TD} {md:MD} {td:List TD} {ke:XK R} {kd:DK} (h:xstore E D ty a x md td ke=some r) (K:∀md td x,ke md td x=some r→kd md td x):dstore { E with base:=b } D.toD ty a x md td kd:=by
 cases a with
 | p c off=>
  have go:∀x:TD,xshareOne D.sy x md td (fun x md td=>match (md.own[c]?).join with
   | some (cs,e)=>match dcells x,lk E.agg ty with
    | some xs,some n=>gd (xs.length==n.getD 1&&Nat.ble (off+xs.length) cs.length&&dones xs) (ke (md.setOwn c (spl cs off xs) e) td (.v undef))
    | _,_=>none
   | none=>none)=some r→dshareOne D.toD.sy x md td (fun x md td=>match (md.own[c]?).join with
   | some (cs,e)=>match dcells x,lk E.agg ty with
    | some xs,some n=>bif xs.length==n.getD 1&&Nat.ble (off+xs.length) cs.length&&dones xs then kd (md.setOwn c (spl cs off xs) e) td (.v undef) else False
    | _,_=>False
   | none=>False):=fun x h=>by
   refine xshareOne_d h fun x md td h=>?_
   split at h
   ·rename_i e1
    split at h
    ·rename_i e2 e3
     simp only [gd_some] at h
     simp only [e1,e2,e3,h.1,cond_true]
     exact K _ _ _ h.2
    ·cases h
   ·cases h
  unfold xstore at h
  unfold dstore
  cases x with
  | r i=>
   dsimp only at h ⊢
   split at h
   ·rename_i e1 e2
    simp only [gd_some] at h
    simp only [e1,e2,h.1,cond_true]
    exact K _ _ _ h.2
   ·cases h
  | any=>cases h
  | _=>exact go _ h
 | q i sz j off=>
  unfold xstore at h
  unfold dstore
  dsimp only at h ⊢
  split at h
  ·rename_i e1 e2 e3
   split at h
   ·rename_i e4
    simp only [gd_some] at h
    simp only [e1,e2,e3,e4,h.1,cond_true]
    exact ⟨of_decide_eq_true h.2.1,K _ _ _ h.2.2⟩
   ·cases h
  ·cases h
 | _=>cases h
theorem xindexAddr_d {ty:TypeId} {x i:TD} {md:MD} {td:List TD} {ke:XK R} {kd:DK} (h:xindexAddr E ty x i md td ke=some r) (K:∀md td x,ke md td x=some r→kd md td x):dindexAddr { E with base:=b } ty x i md td kd:=by
 unfold xindexAddr at h
 unfold dindexAddr
 split at h
 ·rename_i e1
  simp only [e1]
  split at h
  ·simp only [gd_some,inR_iff] at h
   simp only [h.1,cond_true]
   exact ⟨h.2.1,K _ _ _ h.2.2⟩
  ·split at h
   ·rename_i e2
    simp only [gd_some,inR_iff] at h
    simp only [e2,h.1,cond_true]
    exact ⟨h.2.1,K _ _ _ h.2.2⟩
   ·cases h
  ·cases h
 ·rename_i e1
  simp only [e1]
  split at h
  ·split at h
   ·rename_i e2
    simp only [gd_some,inR_iff] at h
    simp only [e2]
    exact ⟨h.1,K _ _ _ h.2⟩
   ·cases h
  ·cases h
theorem xappR_d {e:TypeId} {size bytes:Nat} {i:Nat} {q:RowD} {y:TD} {md:MD} {td:List TD} {ke:XK R} {kd:DK} (h:xappR D e size bytes i q y md td ke=some r) (K:∀md td x,ke md td x=some r→kd md td x):dappR D.toD e size bytes i q y md td kd:=by
 unfold xappR at h
 unfold dappR
 split at h
 ·rename_i L e1
  rw [gd_some,Bool.and_eq_true] at h
  split
  ·rename_i L' e2
   cases Option.some.inj (e1.symm.trans e2)
   exact ⟨⟨Nat.le_of_ble_eq_true h.1.1,Nat.le_of_ble_eq_true h.1.2⟩,K _ _ _ h.2⟩
  ·rename_i e2
   cases e1.symm.trans e2
 ·cases h
theorem xappT_d {e:TypeId} {size bytes:Nat} {x y:TD} {md:MD} {td:List TD} {ke:XK R} {kd:DK} (h:xappT D e size bytes x y md td ke=some r) (K:∀md td x,ke md td x=some r→kd md td x):dappT D.toD e size bytes x y md td kd:=by
 unfold xappT at h
 unfold dappT
 split at h
 ·split at h
  ·rename_i e1
   rw [gd_some] at h
   simp only [e1,h.1,cond_true]
   exact xappR_d h.2 K
  ·cases h
 ·split at h
  ·rename_i e1
   rw [gd_some] at h
   simp only [show lk D.toD.sy e=_ from e1,h.1,cond_true]
   exact xappR_d h.2 K
  ·cases h
 ·cases h
end Go.Proofs.YtdbjakibneeeiaaGreatDoor.Sx
namespace Go.Proofs.YtdbjakibneeeiaaGreatDoor.Sx
open Go.RowKit
variable {R : Type} {r : R} {E : Env} {b : List Fact} {P : Program} {D : EE}
theorem xstep0_d {o:Oper} {st:Bool} {md0 md:MD} {td:List TD} {ke:XK R} {kd:DK} (h:xstep0 P E D o st md0 md td ke=some r) (K:∀md td x,ke md td x=some r→kd md td x):dstep0 P { E with base:=b } D.toD o st md0 md td kd:=by
 unfold xstep0 at h
 unfold dstep0
 split at h
 ·rename_i e0;simp only [e0];exact K _ _ _ h
 ·rename_i e0;simp only [e0];exact K _ _ _ h
 ·rename_i e0;simp only [e0]
  split at h
  ·rename_i e1;simp only [e1];exact xbr_d h (K _ _ _) (K _ _ _)
  ·cases h
 ·rename_i e0;simp only [e0]
  split at h
  ·rename_i e1 e2;simp only [e1,show lk D.toD.sy _=_ from e2];exact K _ _ _ h
  ·cases h
 ·rename_i e0;simp only [e0]
  split at h
  ·rename_i e1;rw [gd_some] at h;simp only [e1,h.1,cond_true];exact K _ _ _ h.2
  ·cases h
 ·rename_i e0;simp only [e0];exact xload_d h K
 ·rename_i e0;simp only [e0];exact xstore_d h K
 ·rename_i e0;simp only [e0]
  split at h
  ·rename_i e1;simp only [e1]
   split at h
   ·rename_i e2;simp only [e2];exact K _ _ _ h
   ·rename_i e2;simp only [e2];exact K _ _ _ h
   ·rename_i e2;simp only [e2];exact K _ _ _ h
   ·cases h
  ·cases h
 ·rename_i e0;simp only [e0];exact xindexAddr_d h K
 ·rename_i e0;simp only [e0]
  split at h
  ·rename_i e1 e2;simp only [e1,e2];exact xprim_d h fun v h=>K _ _ _ h
  ·cases h
 ·rename_i e0;simp only [e0]
  split at h
  ·rename_i e1 e2;simp only [e1,e2]
   split at h
   ·rename_i e3;simp only [e3,cond_true];exact xbinT_d h fun v h=>K _ _ _ h
   ·rename_i e3;simp only [e3,cond_false];exact xprim_d h fun v h=>K _ _ _ h
  ·rename_i hne e1 e2
   simp only [e1,e2]
   first
    | exact xcmp_d h fun v h=>K _ _ _ h
    | (split
       ·rename_i a' b' f1 f2;cases f1;cases f2;exact (hne _ _ rfl rfl).elim
       ·rename_i a' b' hne2 f1 f2;cases f1;cases f2;exact xcmp_d h fun v h=>K _ _ _ h
       ·rename_i n1 n2;exact absurd rfl (n2 _ _ rfl))
  ·cases h
 ·rename_i e0;simp only [e0]
  split at h
  ·rename_i e1;simp only [e1];exact K _ _ _ h
  ·cases h
 ·rename_i e0;simp only [e0]
  split at h
  ·rename_i e1;rw [gd_some,inI_iff] at h;simp only [e1];exact ⟨h.1,K _ _ _ h.2⟩
  ·cases h
 ·rename_i src dst x e0;rw [e0]
  have fin:∀y,(match lk D.idc (src,dst),dstep0.dvalQ y with
    | some _,true=>ke md td y
    | _,_=>none)=some r→(match lk D.toD.idc (src,dst),dstep0.dvalQ y with
    | some _,true=>kd md td y
    | _,_=>False):=fun y h=>by
   split at h
   ·rename_i e2 e3
    rw [show lk D.toD.idc _=_ from e2,e3];exact K _ _ _ h
   ·cases h
  show (match dev td x with
   | .v u=>dprim P (do pure (.value (← convert src dst u))) (fun v=>kd md td (.v v))
   | .any=>False
   | y=>match lk D.toD.idc (src,dst),dstep0.dvalQ y with
    | some _,true=>kd md td y
    | _,_=>False)
  cases hx:dev td x with
  | v u=>rw [hx] at h;exact xprim_d h fun v h=>K _ _ _ h
  | any=>rw [hx] at h;cases h
  | _=>rw [hx] at h;exact fin _ h
 ·rename_i e0;simp only [e0]
  split at h
  ·rename_i e1;simp only [e1]
   split at h
   ·rename_i e2;simp only [e2];exact K _ _ _ h
   ·cases h
  ·rename_i e1;simp only [e1]
   split at h
   ·rename_i e2;simp only [e2];exact K _ _ _ h
   ·cases h
  ·cases h
 ·rename_i e0;simp only [e0]
  split at h
  ·rename_i e1 e2;simp only [e1,show lk D.toD.sy _=_ from e2]
   split at h
   ·rename_i e3;rw [gd_some] at h;simp only [e3,h.1,cond_true];exact K _ _ _ h.2
   ·cases h
  ·cases h
 ·rename_i e0;simp only [e0]
  split at h
  ·rename_i e1;simp only [e1]
   split at h
   ·rename_i e2;simp only [show lk D.toD.sy _=_ from e2]
    split at h
    ·rename_i e3
     rw [gd_some,Bool.not_eq_true'] at h
     simp only [e3,h.1,cond_true,cond_false];exact K _ _ _ h.2
    ·rename_i e3
     simp only [e3,cond_false]
     split at h
     ·rename_i e4 e5;rw [gd_some] at h;simp only [e4,e5,h.1,cond_true];exact K _ _ _ h.2
     ·cases h
   ·cases h
  ·cases h
 ·rename_i e0;simp only [e0]
  split at h
  ·rename_i e1 e2 e3;simp only [e1,e2,e3]
   split at h
   ·rename_i e4 e5
    simp only [gd_some,Bool.and_eq_true,decide_eq_true_eq] at h
    simp only [e4,show lk D.toD.sy _=_ from e5]
    rw [show ((_:Bool)&&_)=true from Bool.and_eq_true_iff.2 h.1]
    exact ⟨⟨h.2.1.1.1.1,h.2.1.1.1.2,h.2.1.1.2,Nat.le_of_ble_eq_true h.2.1.2⟩,K _ _ _ h.2.2⟩
   ·cases h
  ·cases h
 ·rename_i e0;simp only [e0]
  split at h
  ·rename_i e1 e2;simp only [e1,e2]
   split at h
   ·split at h
    ·rename_i e3
     simp only [gd_some,Bool.and_eq_true,decide_eq_true_eq] at h
     simp only [e3,h.1,cond_true]
     exact ⟨trivial,h.2.1,K _ _ _ h.2.2⟩
    ·cases h
   ·split at h
    ·rename_i e3
     simp only [gd_some,Bool.and_eq_true,decide_eq_true_eq] at h
     simp only [e3,h.1,cond_true]
     exact ⟨trivial,h.2.1,K _ _ _ h.2.2⟩
    ·cases h
   ·cases h
  ·rename_i n1 e2
   rw [e2]
   rcases lk E.row _ with _ | ⟨_,_,_⟩ <;> dsimp only <;> split at h <;> (try dsimp only) <;> first
    | (cases h;done)
    | (split at h
       ·rename_i e3;simp only [e3];exact xprim_d h fun v h=>K _ _ _ h
       ·cases h)
  ·cases h
 ·rename_i e0;simp only [e0]
  split at h
  ·rename_i e1;simp only [e1]
   split at h
   ·rename_i e2;simp only [e2];exact K _ _ _ h
   ·cases h
  ·rename_i e1;simp only [e1];exact xprim_d h fun v h=>K _ _ _ h
  ·cases h
 ·rename_i e0;simp only [e0]
  split at h
  ·rename_i e1;simp only [e1];exact xcallT_d h K
  ·rename_i f n1 e1;simp only [e1]
   split at h
   ·rename_i e2;simp only [e2];exact xcallT_d h K
   ·cases h
  ·rename_i e1;simp only [e1]
   split at h
   ·rename_i e2 e3;simp only [e2,e3]
    split at h
    ·rename_i e4;simp only [show dlen { E with base:=b } _ _ _=_ from e4];exact K _ _ _ h
    ·cases h
   ·cases h
  ·rename_i e1;simp only [e1]
   split at h
   ·rename_i e2 e3;simp only [e2,e3]
    split at h
    ·rename_i e4;rw [gd_some] at h;simp only [e4,h.1,cond_true];exact xappT_d h.2 K
    ·cases h
   ·cases h
  ·rename_i e1;simp only [e1]
   split at h
   ·rename_i e2;simp only [e2];exact xprim_d h fun v h=>K _ _ _ h
   ·cases h
  ·rename_i e1;simp only [e1]
   split at h
   ·rename_i e2;simp only [e2];exact xprim_d h fun v h=>K _ _ _ h
   ·cases h
  ·cases h
 ·cases h
theorem xstep_d {o:Oper} {md:MD} {td:List TD} {ke:XK R} {kd:DK} (h:xstep P E D o md td ke=some r) (K:∀md td x,ke md td x=some r→kd md td x):dstep P { E with base:=b } D.toD o md td kd:=by
 unfold xstep at h
 unfold dstep
 split at h
 ·rename_i e1 e2;simp only [e1,show dheld { E with base:=b } _ _ _=_ from e2];exact xstep0_d h K
 ·rename_i e1 e2;simp only [e1,show dheld { E with base:=b } _ _ _=_ from e2];exact xshareAll_d h fun _ md td h=>xstep0_d h K
 ·cases h
theorem xstepQ_d {o:Oper} {st:Bool} {md0 md:MD} {td:List TD} {ke:XK R} {kd:DK} (h:xstepQ P E D o st md0 md td ke=some r) (K:∀md td x,ke md td x=some r→kd md td x):dstepQ P { E with base:=b } D.toD o st md0 md td kd:=by
 unfold xstepQ at h
 unfold dstepQ
 rw [gd_some,Bool.not_eq_true'] at h
 rw [show dbadQ { E with base:=b } o td=false from h.1,show isMS { E with base:=b } o=isMS E o from rfl]
 have h2:=h.2
 cases hsm:isMS E o with
 | false=>
  rw [hsm] at h2
  have h2:xstep0 P E D o st md0 md td ke=some r:=h2
  exact xstep0_d h2 K
 | true=>
  rw [hsm] at h2
  have h2:xstep0 P E D o false md0 md td (fun md td x=>xshareOne D.sy x md td (fun x md td=>ke md td x))=some r:=h2
  exact xstep0_d h2 fun md td x h=>xshareOne_d h fun x md td h=>K _ _ _ h
theorem xgo_d {X:Option (List Nat)} {o:Oper} {st:Bool} {md0 md:MD} {td:List TD} {ke:XK R} {kd:DK} (h:xgo P E D X o st md0 md td ke=some r) (K:∀md td x,ke md td x=some r→kd md td x):dgo P { E with base:=b } D.toD X o st md0 md td kd:=by
 cases X with
 | none=>exact xstep_d h K
 | some X=>exact xstepQ_d h K
theorem xcallF_eq {q:Bool} {g:FuncId} {xs:List TD}:dcallF { E with base:=b } D.toD q g xs=xcallF E D q g xs:=by
 unfold dcallF xcallF
 rw [toD_sm,show howOf { E with base:=b } q g=howOf E q g from rfl]
 cases lk D.sm g <;> rfl
theorem xstillC_eq {o:Oper} {td:List TD}:dstillC { E with base:=b } D.toD o td=xstillC E D o td:=by
 unfold dstillC xstillC
 rw [show isMS { E with base:=b } o=isMS E o from rfl]
 congr 1
 cases o.op with
 | call c=>
  obtain ⟨callee,args,tys⟩:=c
  cases callee with
  | value v=>
   cases v with
   | func g=>exact xcallF_eq
   | _=>rfl
  | _=>rfl
 | _=>rfl
theorem xops_d {X:Option (List Nat)} {all:List Oper}:∀{l:List Oper} {st:Bool} {md0 md:MD} {td:List TD} {ke:XM R} {kd:DM},xops P E D X all l st md0 md td ke=some r→(∀md td,ke md td=some r→kd md td)→dops P { E with base:=b } D.toD X all l st md0 md td kd
 | [],st,md0,md,td,ke,kd,h,K=>K _ _ h
 | o::l,st,md0,md,td,ke,kd,h,K=>by
  unfold xops at h
  unfold dops
  have go:∀{td1 td0:List TD},gd (dokStore X md0.own.length o td1) (xgo P E D X o st md0 md td0 (fun md' td' x=>dforceM md' (fun md'=>dforceT (dput td' o.dst x) (fun td2=>xops P E D X all l (st&&xstillC E D o td0) md0 md' td2 ke))))=some r→
    (bif dokStore X md0.own.length o td1 then dgo P { E with base:=b } D.toD X o st md0 md td0 (fun md' td' x=>dforceM md' (fun md'=>dforceT (dput td' o.dst x) (fun td2=>dops P { E with base:=b } D.toD X all l (st&&dstillC { E with base:=b } D.toD o td0) md0 md' td2 kd))) else False):=fun {td1 td0} h=>by
   rw [gd_some] at h
   rw [h.1]
   refine xgo_d h.2 fun md td x h=>?_
   simp only [dforceM_eq,dforceT_eq] at h ⊢
   rw [xstillC_eq]
   exact xops_d h K
  split at h
  ·rename_i e1;simp only [e1];exact go h
  ·rename_i e1;simp only [e1]
   split at h
   ·cases h
   ·rename_i e2;simp only [e2]
    split at h
    ·rename_i e3;simp only [e3]
     exact xbr_d h (fun h=>by have h2:=go h;exact h2) (fun h=>by simp only [dforceT_eq] at h ⊢;exact xops_d h K)
    ·rename_i e3;simp only [e3]
     simp only [dforceT_eq] at h ⊢;exact xops_d h K
    ·cases h
theorem xtailS_d {all:List Oper}:∀{l:Ord} {md:MD} {td:List TD} {ke:XM R} {kd:DM},xtailS P E D all l md td ke=some r→(∀md td,ke md td=some r→kd md td)→dtailS P { E with base:=b } D.toD all l md td kd
 | .done,md,td,ke,kd,h,K=>K _ _ h
 | .last i q,md,td,ke,kd,h,K=>xops_d (ke:=fun m t=>xtailS P E D all q m t ke) h fun md td h=>xtailS_d (l:=q) h K
 | .one _ _,md,td,ke,kd,h,K=>by cases h
 | .fork _ _ _ _,md,td,ke,kd,h,K=>by cases h
 | .fork3 _ _ _ _ _ _,md,td,ke,kd,h,K=>by cases h
 | .now _ _,md,td,ke,kd,h,K=>by cases h
theorem xopsS_d [Same R] {X:Option (List Nat)} {all:List Oper}:∀{f:Nat} {l:Ord} {st:Bool} {md0 md:MD} {td:List TD} {ke:XM R} {kd:DM},xopsS P E D X all f l st md0 md td ke=some r→(∀md td,ke md td=some r→kd md td)→dopsS P { E with base:=b } D.toD X all f l st md0 md td kd
 | 0,l,st,md0,md,td,ke,kd,h,K=>by cases h
 | f+1,l,st,md0,md,td,ke,kd,h,K=>by
  unfold xopsS at h
  unfold dopsS
  split at h
  ·rename_i e1;simp only [e1];exact xops_d h K
  ·rename_i e1;simp only [e1]
   exact xops_d h fun md td h=>xtailS_d (E:={ E with quiet:=false }) h K
  ·rename_i e1;simp only [e1]
   exact xops_d h fun md td h=>⟨xopsS_d (both_some h).1 K,xopsS_d (both_some h).2 K⟩
  ·rename_i e1;simp only [e1]
   exact xops_d h fun md td h=>⟨xopsS_d (both_some h).1 K,xopsS_d (both_some (both_some h).2).1 K,xopsS_d (both_some (both_some h).2).2 K⟩
  ·rename_i e1;simp only [e1]
   exact xops_d h fun md td h=>xops_d h fun md td h=>xopsS_d h K
  ·cases h
theorem xresAll_d {sy:List (TypeId×Sh)}:∀{l:List ResultVar} {md:MD} {td:List TD} {ke:List TD→Option R} {kd:List TD→Prop},xresAll E sy l md td ke=some r→(∀l,ke l=some r→kd l)→dresAll { E with base:=b } sy l md td kd
 | [],md,td,ke,kd,h,K=>K _ h
 | .tmp i::l,md,td,ke,kd,h,K=>xshareOne_d (ke:=fun x m t=>gd (disV x) (xresAll E sy l m t (fun vs=>ke (x::vs)))) h fun x md td h=>by
  rw [gd_some] at h
  rw [h.1]
  exact xresAll_d (ke:=fun vs=>ke (x::vs)) h.2 fun l h=>K _ h
 | .cell i ty::l,md,td,ke,kd,h,K=>by
  unfold xresAll at h
  unfold dresAll
  split at h
  ·rename_i e0;simp only [e0]
   split at h
   ·rename_i e1 e2;simp only [e1,e2]
    refine xshareAll_d h fun xs md td h=>?_
    rw [gd_some] at h
    rw [h.1]
    exact xresAll_d (ke:=fun vs=>ke (.g xs::vs)) h.2 fun l h=>K _ h
   ·rename_i e1 e2;simp only [e1,e2]
    split at h
    ·rename_i e3;simp only [e3]
     refine xshareOne_d h fun x md td h=>?_
     rw [gd_some] at h
     rw [h.1]
     exact xresAll_d (ke:=fun vs=>ke (x::vs)) h.2 fun l h=>K _ h
    ·cases h
   ·cases h
  ·cases h
end Go.Proofs.YtdbjakibneeeiaaGreatDoor.Sx
namespace Go.Proofs.YtdbjakibneeeiaaGreatDoor.Sx
open Go.RowKit
section
variable {Ob : Nat → Prop} {fs : List Fact}
theorem packT_relT {s:Sh} {x:TD} {y:Den s} (h:packT s x=some y) {t:T} (k:RelT fs x t):RelT fs (tdOf s y) t:=by
 obtain ⟨v,rfl,hv⟩:=packT_val h k
 exact relT_v (tdOf_rel (packT_rel h hv))
theorem grabS_rel:∀{l:List HI} {td:List TD} {x:DenL (shs l)} {t:List T},grabS l td=some x→RTs fs td t→RTs fs (layS l x) t
 | [],[],x,t,h,k=>k
 | [],_::_,x,t,h,k=>by cases h
 | q::l,[],x,t,h,k=>by cases h
 | q::l,c::td,x,t,h,k=>by
  obtain ⟨u,us,rfl,h1,h2⟩:=k.tail
  have h:grabH q c l (grabS l td)=some x:=h
  cases q with
  | any=>exact RTs.cons (c:=.any) trivial (grabS_rel (l:=l) h h2)
  | p b o=>
   cases c with
   | p b' o'=>
    have h:gd (b==b'&&o==o') (grabS l td)=some x:=h
    obtain ⟨hb,h9⟩:=gd_some.1 h
    rw [Bool.and_eq_true,beq_iff_eq,beq_iff_eq] at hb
    obtain ⟨rfl,rfl⟩:=hb
    exact RTs.cons h1 (grabS_rel (l:=l) h9 h2)
   | _=>cases h
  | r i=>
   cases c with
   | r i'=>
    have h:gd (i==i') (grabS l td)=some x:=h
    obtain ⟨hb,h9⟩:=gd_some.1 h
    rw [beq_iff_eq] at hb
    subst hb
    exact RTs.cons h1 (grabS_rel (l:=l) h9 h2)
   | _=>cases h
  | fn f cs=>
   cases c with
   | fn f' cs'=>
    have h:gd (f==f'&&decide (cs=cs')) (grabS l td)=some x:=h
    obtain ⟨hb,h9⟩:=gd_some.1 h
    rw [Bool.and_eq_true,beq_iff_eq,decide_eq_true_eq] at hb
    obtain ⟨rfl,rfl⟩:=hb
    exact RTs.cons h1 (grabS_rel (l:=l) h9 h2)
   | _=>cases h
  | d s=>
   have h:(match packT s c with
    | some y=>match grabS l td with
     | some z=>some ((y,z):Den s×DenL (shs l))
     | none=>none
    | none=>none)=some x:=h
   split at h
   ·rename_i y e1
    split at h
    ·rename_i z e2
     cases h
     exact RTs.cons (packT_relT e1 h1) (grabS_rel (l:=l) e2 h2)
    ·cases h
   ·cases h
mutual
theorem packD_rts:∀{s:Sh} {cs:List TD} {x:Den s} {r:List TD} {ts:List T},packD s cs=some (x,r)→RTs fs cs ts→∃(v1:List Value) (t2:List T),ts=v1.map T.v++t2∧LieV (inF fs) s x v1∧RTs fs r t2
 | .int,cs,x,r,ts,h,k=>by
  match cs,h,k with
  | .v (.int .i64 z)::cs,h,k=>
   cases h
   obtain ⟨t,us,rfl,h1,h2⟩:=k.tail
   have h1:t=.v (.int .i64 x):=h1
   exact ⟨[.int .i64 x],us,by rw [h1];rfl,rfl,h2⟩
 | .bool,cs,x,r,ts,h,k=>by
  match cs,h,k with
  | .v (.bool z)::cs,h,k=>
   cases h
   obtain ⟨t,us,rfl,h1,h2⟩:=k.tail
   have h1:t=.v (.bool x):=h1
   exact ⟨[.bool x],us,by rw [h1];rfl,rfl,h2⟩
 | .str,cs,x,r,ts,h,k=>by
  match cs,h,k with
  | .v (.string z)::cs,h,k=>
   cases h
   obtain ⟨t,us,rfl,h1,h2⟩:=k.tail
   have h1:t=.v (.string x):=h1
   exact ⟨[.string x],us,by rw [h1];rfl,rfl,h2⟩
 | .num _,cs,x,r,ts,h,k=>by
  match cs,h,k with
  | .v z::cs,h,k=>
   have h:(bif Value.oneCell' z then some (z,cs) else none)=some (x,r):=h
   cases hz:z.oneCell' with
   | false=>rw [hz] at h;cases h
   | true=>
    rw [hz] at h
    cases h
    obtain ⟨t,us,rfl,h1,h2⟩:=k.tail
    have h1:t=.v x:=h1
    exact ⟨[x],us,by rw [h1];rfl,⟨rfl,hz⟩,h2⟩
 | .flat l,cs,x,r,ts,h,k=>packL_rts (l:=l) h k
 | .row e,cs,x,r,ts,h,k=>by
  match cs,h,k with
  | .d s L::cs,h,k=>
   have h:(Sh.castB s e L).map (fun L=>(L,cs))=some (x,r):=h
   cases hK:Sh.castB s e L with
   | none=>rw [hK] at h;cases h
   | some K=>
    rw [hK] at h
    cases h
    obtain ⟨t,us,rfl,⟨y,rfl,h1⟩,h2⟩:=k.tail
    exact ⟨[y],us,rfl,castB_rel hK h1,h2⟩
  | .v (.slice none 0 0)::cs,h,k=>
   cases h
   obtain ⟨t,us,rfl,h1,h2⟩:=k.tail
   have h1:t=.v (.slice none 0 0):=h1
   exact ⟨[.slice none 0 0],us,by rw [h1];rfl,⟨none,0,0,[],rfl,⟨Nat.le_refl _,Nat.zero_le _,fun _=>⟨rfl,rfl⟩⟩,rfl,rfl,.inl rfl⟩,h2⟩
theorem packL_rts:∀{l:List Sh} {cs:List TD} {x:DenL l} {r:List TD} {ts:List T},packL l cs=some (x,r)→RTs fs cs ts→∃(v1:List Value) (t2:List T),ts=v1.map T.v++t2∧LieL (inF fs) l x v1∧RTs fs r t2
 | [],cs,x,r,ts,h,k=>by
  cases h
  exact ⟨[],ts,rfl,rfl,k⟩
 | s::l,cs,x,r,ts,h,k=>by
  simp only [packL] at h
  split at h
  ·rename_i x1 r1 e1
   split at h
   ·rename_i x2 r2 e2
    cases h
    obtain ⟨v1,t2,rfl,k1,k2⟩:=packD_rts (s:=s) e1 k
    obtain ⟨v3,t4,rfl,k3,k4⟩:=packL_rts (l:=l) e2 k2
    exact ⟨v1++v3,t4,by rw [List.map_append,List.append_assoc],⟨v1,v3,rfl,k1,k3⟩,k4⟩
   ·cases h
  ·cases h
end
theorem grabC_rel:∀{l:List HI} {td:List TD} {x:DenL (shs l)} {t:List T},grabC l td=some x→RTs fs td t→RTs fs (layC l x) t
 | [],[],x,t,h,k=>k
 | [],_::_,x,t,h,k=>by cases h
 | .any::l,td,x,t,h,k=>by cases h
 | .p b o::l,td,x,t,h,k=>by
  match td,h,k with
  | .p b' o'::td,h,k=>
   obtain ⟨u,us,rfl,h1,h2⟩:=k.tail
   have h:gd (b==b'&&o==o') (grabC l td)=some x:=h
   obtain ⟨hb,h9⟩:=gd_some.1 h
   rw [Bool.and_eq_true,beq_iff_eq,beq_iff_eq] at hb
   obtain ⟨rfl,rfl⟩:=hb
   exact RTs.cons h1 (grabC_rel (l:=l) h9 h2)
 | .r i::l,td,x,t,h,k=>by
  match td,h,k with
  | .r i'::td,h,k=>
   obtain ⟨u,us,rfl,h1,h2⟩:=k.tail
   have h:gd (i==i') (grabC l td)=some x:=h
   obtain ⟨hb,h9⟩:=gd_some.1 h
   rw [beq_iff_eq] at hb
   subst hb
   exact RTs.cons h1 (grabC_rel (l:=l) h9 h2)
 | .fn f cs::l,td,x,t,h,k=>by
  match td,h,k with
  | .fn f' cs'::td,h,k=>
   obtain ⟨u,us,rfl,h1,h2⟩:=k.tail
   have h:gd (f==f'&&decide (cs=cs')) (grabC l td)=some x:=h
   obtain ⟨hb,h9⟩:=gd_some.1 h
   rw [Bool.and_eq_true,beq_iff_eq,decide_eq_true_eq] at hb
   obtain ⟨rfl,rfl⟩:=hb
   exact RTs.cons h1 (grabC_rel (l:=l) h9 h2)
 | .d s::l,td,x,t,h,k=>by
  have h:(match packD s td with
   | some (y,t)=>match grabC l t with
    | some z=>some ((y,z):Den s×DenL (shs l))
    | none=>none
   | none=>none)=some x:=h
  split at h
  ·rename_i y r e1
   split at h
   ·rename_i z e2
    cases h
    obtain ⟨v1,t2,rfl,h1,h2⟩:=packD_rts e1 k
    exact (cellsD_rel (s:=s) h1).rts.app (grabC_rel (l:=l) e2 h2)
   ·cases h
  ·cases h
theorem grabO_get:∀{l:List (Option (List HI×TypeId))} {o:List (Option (List TD×TypeId))} {x:DenLL (shO l)},grabO l o=some x→(layO l x).length≤o.length∧(layO l x).length=l.length∧∀(b:Nat) cs' ty,(layO l x)[b]?=some (some (cs',ty))→∃cs,o[b]?=some (some (cs,ty))∧∀{fs:List Fact} {ts:List T},RTs fs cs ts→RTs fs cs' ts
 | [],o,x,h=>⟨Nat.zero_le _,rfl,fun b cs' ty hb=>by simp [layO] at hb⟩
 | none::l,[],x,h=>by simp [grabO] at h
 | some _::l,[],x,h=>by simp [grabO] at h
 | none::l,q::o,x,h=>by
  obtain ⟨h1,h2,h3⟩:=grabO_get (l:=l) (o:=o) (x:=x) h
  refine ⟨by simpa [layO] using h1,by simpa [layO] using h2,fun b cs' ty hb=>?_⟩
  cases b with
  | zero=>simp [layO] at hb
  | succ b=>simpa using h3 b cs' ty (by simpa [layO] using hb)
 | some (s,e)::l,none::o,x,h=>by simp [grabO] at h
 | some (s,e)::l,some (cs,e')::o,x,h=>by
  rw [grabO,gd_some,beq_iff_eq] at h
  obtain ⟨rfl,h⟩:=h
  split at h
  ·rename_i y e1
   split at h
   ·rename_i z e2
    obtain rfl:=Option.some.inj h
    obtain ⟨h1,h2,h3⟩:=grabO_get (l:=l) (o:=o) (x:=z) e2
    refine ⟨by simpa [layO] using h1,by simpa [layO] using h2,fun b cs' ty hb=>?_⟩
    cases b with
    | zero=>
     simp [layO] at hb
     obtain ⟨rfl,rfl⟩:=hb
     exact ⟨cs,rfl,fun {fs ts} hr=>grabC_rel e1 hr⟩
    | succ b=>simpa using h3 b cs' ty (by simpa [layO] using hb)
   ·cases h
  ·cases h
theorem castB_eq {s e:Sh} {L:List (Den s)} {K:List (Den e)} (h:Sh.castB s e L=some K) {ε:TypeId} {z:Nat}:(⟨ε,z,s,L⟩:RowD)=⟨ε,z,e,K⟩:=by
 unfold Sh.castB at h
 split at h
 ·rename_i hb
  have he:=Sh.eq_of hb
  subst he
  simp at h
  subst h
  rfl
 ·cases h
theorem grabR_get:∀{l:List (Option (TypeId×Nat×Sh))} {o:List (Option RowD)} {x:DenL (shR l)},grabR l o=some x→(layR l x).length≤o.length∧(layR l x).length=l.length∧∀(i:Nat) r,(layR l x)[i]?=some (some r)→o[i]?=some (some r)
 | [],o,x,h=>⟨Nat.zero_le _,rfl,fun b cs' hb=>by simp [layR] at hb⟩
 | none::l,[],x,h=>by simp [grabR] at h
 | some _::l,[],x,h=>by simp [grabR] at h
 | none::l,q::o,x,h=>by
  obtain ⟨h1,h2,h3⟩:=grabR_get (l:=l) (o:=o) (x:=x) h
  refine ⟨by simpa [layR] using h1,by simpa [layR] using h2,fun b r hb=>?_⟩
  cases b with
  | zero=>simp [layR] at hb
  | succ b=>simpa using h3 b r (by simpa [layR] using hb)
 | some (e,z,s)::l,none::o,x,h=>by simp [grabR] at h
 | some (e,z,s)::l,some q::o,x,h=>by
  rw [grabR,gd_some,Bool.and_eq_true,beq_iff_eq,beq_iff_eq] at h
  obtain ⟨⟨rfl,rfl⟩,h⟩:=h
  split at h
  ·rename_i y e1
   split at h
   ·rename_i w e2
    obtain rfl:=Option.some.inj h
    obtain ⟨h1,h2,h3⟩:=grabR_get (l:=l) (o:=o) (x:=w) e2
    refine ⟨by simpa [layR] using h1,by simpa [layR] using h2,fun b r hb=>?_⟩
    cases b with
    | zero=>
     simp [layR] at hb
     subst hb
     obtain ⟨a1,a2,a3,a4⟩:=q
     simp only [List.getElem?_cons_zero,Option.some.injEq]
     exact castB_eq e1
    | succ b=>simpa using h3 b r (by simpa [layR] using hb)
   ·cases h
  ·cases h
theorem tdOf_fits {a:Bool} {nb nr:Nat} {s:Sh} {x:Den s}:dfits a nb nr [tdOf s x]=true:=by cases s <;> rfl
mutual
theorem cellsD_fits {nb nr:Nat}:∀{s:Sh} {x:Den s} {r:List TD},dfits false nb nr r=true→dfits false nb nr (cellsD s x++r)=true
 | .int,x,r,h=>h
 | .bool,x,r,h=>h
 | .str,x,r,h=>h
 | .num _,x,r,h=>h
 | .flat l,x,r,h=>cellsDL_fits (l:=l) h
 | .row e,x,r,h=>h
theorem cellsDL_fits {nb nr:Nat}:∀{l:List Sh} {x:DenL l} {r:List TD},dfits false nb nr r=true→dfits false nb nr (cellsDL l x++r)=true
 | [],x,r,h=>h
 | s::l,x,r,h=>by
  show dfits false nb nr (cellsD s x.1++cellsDL l x.2++r)=true
  rw [List.append_assoc]
  exact cellsD_fits (s:=s) (cellsDL_fits (l:=l) h)
end
theorem layS_fits {nb nr:Nat}:∀{l:List HI} {x:DenL (shs l)},hfits nb nr l=true→dfits true nb nr (layS l x)=true
 | [],x,h=>rfl
 | .any::l,x,h=>by show dfits true nb nr (.any::layS l x)=true;rw [dfits_cons,layS_fits (l:=l) (x:=x) h];rfl
 | .p b o::l,x,h=>by
  have h:(Nat.blt b nb&&hfits nb nr l)=true:=h
  rw [Bool.and_eq_true] at h
  show dfits true nb nr (.p b o::layS l x)=true
  rw [dfits_cons,layS_fits (l:=l) (x:=x) h.2,Bool.and_true]
  simp only [dfits,Bool.and_true];exact h.1
 | .r i::l,x,h=>by
  have h:(Nat.blt i nr&&hfits nb nr l)=true:=h
  rw [Bool.and_eq_true] at h
  show dfits true nb nr (.r i::layS l x)=true
  rw [dfits_cons,layS_fits (l:=l) (x:=x) h.2,Bool.and_true]
  simp only [dfits,Bool.and_true];exact h.1
 | .fn f c::l,x,h=>by
  have h:((c.all fun q=>Nat.blt q.1 nb)&&hfits nb nr l)=true:=h
  rw [Bool.and_eq_true] at h
  show dfits true nb nr (.fn f c::layS l x)=true
  rw [dfits_cons,layS_fits (l:=l) (x:=x) h.2,Bool.and_true]
  simp only [dfits,Bool.and_true];exact h.1
 | .d s::l,x,h=>by
  show dfits true nb nr (tdOf s x.1::layS l x.2)=true
  rw [dfits_cons,layS_fits (l:=l) (x:=x.2) h,tdOf_fits];rfl
theorem layC_fits {nb nr:Nat}:∀{l:List HI} {x:DenL (shs l)} {td:List TD},grabC l td=some x→hfits nb nr l=true→dfits false nb nr (layC l x)=true
 | [],x,td,g,h=>rfl
 | .any::l,x,td,g,h=>by cases g
 | .p b o::l,x,td,g,h=>by
  match td,g with
  | .p b' o'::td,g=>
   have g:gd (b==b'&&o==o') (grabC l td)=some x:=g
   have h:(Nat.blt b nb&&hfits nb nr l)=true:=h
   rw [Bool.and_eq_true] at h
   show dfits false nb nr (.p b o::layC l x)=true
   rw [dfits_cons,layC_fits (l:=l) (x:=x) (gd_some.1 g).2 h.2,Bool.and_true]
   simp only [dfits,Bool.and_true];exact h.1
 | .r i::l,x,td,g,h=>by
  match td,g with
  | .r i'::td,g=>
   have g:gd (i==i') (grabC l td)=some x:=g
   have h:(Nat.blt i nr&&hfits nb nr l)=true:=h
   rw [Bool.and_eq_true] at h
   show dfits false nb nr (.r i::layC l x)=true
   rw [dfits_cons,layC_fits (l:=l) (x:=x) (gd_some.1 g).2 h.2,Bool.and_true]
   simp only [dfits,Bool.and_true];exact h.1
 | .fn f c::l,x,td,g,h=>by
  match td,g with
  | .fn f' c'::td,g=>
   have g:gd (f==f'&&decide (c=c')) (grabC l td)=some x:=g
   have h:((c.all fun q=>Nat.blt q.1 nb)&&hfits nb nr l)=true:=h
   rw [Bool.and_eq_true] at h
   show dfits false nb nr (.fn f c::layC l x)=true
   rw [dfits_cons,layC_fits (l:=l) (x:=x) (gd_some.1 g).2 h.2,Bool.and_true]
   simp only [dfits,Bool.and_true];exact h.1
 | .d s::l,x,td,g,h=>by
  have g:(match packD s td with
   | some (y,t)=>match grabC l t with
    | some z=>some ((y,z):Den s×DenL (shs l))
    | none=>none
   | none=>none)=some x:=g
  split at g
  ·rename_i y r e1
   split at g
   ·rename_i z e2
    cases g
    exact cellsD_fits (s:=s) (layC_fits (l:=l) e2 h)
   ·cases g
  ·cases g
theorem layO_fits {nb nr:Nat}:∀{l:List (Option (List HI×TypeId))} {o:List (Option (List TD×TypeId))} {x:DenLL (shO l)},grabO l o=some x→hfitsO nb nr l=true→dfitsO nb nr (layO l x)=true
 | [],o,x,g,h=>rfl
 | none::l,[],x,g,h=>by cases g
 | none::l,_::o,x,g,h=>layO_fits (l:=l) (o:=o) (x:=x) g h
 | some (s,ty)::l,[],x,g,h=>by cases g
 | some (s,ty)::l,none::o,x,g,h=>by cases g
 | some (s,ty)::l,some (cs,e')::o,x,g,h=>by
  rw [grabO,gd_some] at g
  obtain ⟨_,g⟩:=g
  have h:(hfits nb nr s&&hfitsO nb nr l)=true:=h
  rw [Bool.and_eq_true] at h
  split at g
  ·rename_i y e1
   split at g
   ·rename_i z e2
    obtain rfl:=Option.some.inj g
    show (dfits false nb nr (layC s y)&&dfitsO nb nr (layO l z))=true
    rw [layC_fits e1 h.1,layO_fits e2 h.2];rfl
   ·cases g
  ·cases g
theorem weak_at {md md':MD} {td':List TD} {m:M} {t:List T} (ht':RTs fs td' t)
  (ho:md'.own.length≤md.own.length∧∀(b:Nat) cs' ty,md'.own[b]?=some (some (cs',ty))→∃cs,md.own[b]?=some (some (cs,ty))∧∀{fs:List Fact} {ts:List T},RTs fs cs ts→RTs fs cs' ts)
  (hr:md'.rows.length≤md.rows.length∧∀(i:Nat) r,md'.rows[i]?=some (some r)→md.rows[i]?=some (some r))
  (hf:(dfits true md'.own.length md'.rows.length td'&&dfitsO md'.own.length md'.rows.length md'.own)=true) (hm:RM Ob fs md m):∃m' t',Le m t m' t'∧RM Ob fs md' m'∧RTs fs td' t':=by
 obtain ⟨o1,o2⟩:=ho
 obtain ⟨r1,r2⟩:=hr
 have lo:md'.own.length≤m.own.length:=hm.ol▸o1
 have lr:md'.rows.length≤m.rows.length:=hm.rl▸r1
 rw [Bool.and_eq_true] at hf
 have hown:∀(b:Nat) (cs:List TD) (ty:TypeId),md'.own[b]?=some (some (cs,ty))→∃ts,(cutO md'.own m.own)[b]?=some (some (ts,ty))∧RTs fs cs ts:=fun b cs ty hb=>by
  obtain ⟨cs0,h1,h2⟩:=o2 b cs ty hb
  obtain ⟨ts,h3,h4⟩:=hm.own b cs0 ty h1
  exact ⟨ts,by rw [cutO_get lo hb];exact h3,h2 h4⟩
 refine ⟨⟨cutO md'.own m.own,cutO md'.rows m.rows,m.facts⟩,cutT td' t,⟨cutT_le ht',⟨cutO_le lo,cutO_le lr,fun _ h=>h⟩,?_⟩,⟨hm.fe,hm.ob,cutO_len lo,hown,cutO_len lr,fun i r hr=>?_⟩,cutT_rel ht'⟩
 ·rw [Bool.and_eq_true]
  simp only
  rw [← cutO_len lo,← cutO_len lr]
  refine ⟨fits_cut ht' hf.1,fitsO_of fun b cs ty hb=>?_⟩
  obtain ⟨⟨cs',ty'⟩,hy⟩:=cutO_none hb
  obtain ⟨ts,h1,h2⟩:=hown b cs' ty' hy
  rw [h1] at hb
  obtain ⟨rfl,rfl⟩:ts=cs∧ty'=ty:=by simpa using hb
  exact fits_own h2 (dfitsO.get hf.2 b cs' ty' hy)
 ·obtain ⟨xs,h1,h2⟩:=hm.row i r (r2 i r hr)
  exact ⟨xs,by simp only;rw [cutO_get lr hr];exact h1,h2⟩
theorem grab_at {h:Lay} {md:MD} {td:List TD} {m:M} {t:List T} {x:h.T} (hg:grab h md td=some x) (hm:RM Ob fs md m) (ht:RTs fs td t):∃m' t',Le m t m' t'∧RM Ob fs (lay h x).1 m'∧RTs fs (lay h x).2 t':=by
 unfold grab at hg
 rw [gd_some,Bool.and_eq_true] at hg
 obtain ⟨hf,hg⟩:=hg
 split at hg
 ·rename_i a e1
  split at hg
  ·rename_i c e2
   split at hg
   ·rename_i d e3
    cases hg
    obtain ⟨o1,o2,o3⟩:=grabO_get e2
    obtain ⟨r1,r2,r3⟩:=grabR_get e3
    refine weak_at (md':=⟨layO h.own c,layR h.rows d⟩) (grabS_rel e1 ht) ⟨o1,o3⟩ ⟨r1,r3⟩ ?_ hm
    rw [Bool.and_eq_true]
    refine ⟨layS_fits ?_,layO_fits e2 ?_⟩
    ·show hfits (layO h.own c).length (layR h.rows d).length h.slots=true
     rw [o2,r2]
     exact hf.1
    ·show hfitsO (layO h.own c).length (layR h.rows d).length h.own=true
     rw [o2,r2]
     exact hf.2
   ·cases hg
  ·cases hg
 ·cases hg
def T.ren (σ τ:List Nat) (x:T):T:=match x with
 | .p b o=>match idx σ b with
  | some b'=>.p b' o
  | none=>.any
 | .fn f c=>match idxs σ c with
  | some c'=>.fn f c'
  | none=>.any
 | .s b n=>match idx σ b with
  | some b'=>.s b' n
  | none=>.any
 | .r i=>match idx τ i with
  | some i'=>.r i'
  | none=>.any
 | .q i o=>match idx τ i with
  | some i'=>.q i' o
  | none=>.any
 | .w i lo z=>match idx τ i with
  | some i'=>.w i' lo z
  | none=>.any
 | x=>x
def M.ren (m:M) (σ τ:List Nat):M:=⟨σ.map fun b=>((m.own[b]?).join).map fun q=>(q.1.map (T.ren σ τ),q.2),τ.map fun i=>(m.rows[i]?).join,m.facts⟩
theorem idx_some:∀{σ:List Nat} {b i:Nat},idx σ b=some i→σ[i]?=some b
 | [],b,i,h=>by cases h
 | x::l,b,i,h=>by
  unfold idx at h
  split at h
  ·rename_i e
   cases h
   rw [eq_of_beq e];rfl
  ·split at h
   ·rename_i j e
    cases h
    simpa using idx_some e
   ·cases h
theorem ptr.ren {β:List Nat} {σ:List Nat} {b b' o:Nat} {y:Value} (h:ptr β b o y) (hi:idx σ b=some b'):ptr (σ.map fun b=>β.getD b 0) b' o y:=by
 obtain ⟨g,hg,rfl⟩:=h
 refine ⟨g,?_,rfl⟩
 rw [List.getElem?_map,idx_some hi]
 simp [List.getD_eq_getElem?_getD,hg]
theorem idxs_some {β:List Nat} {σ:List Nat}:∀{c c':List (Nat×Nat)},idxs σ c=some c'→c'.length=c.length∧∀{cs:List Value},(∀(j:Nat) (q:Nat×Nat),c[j]?=some q→∃u,cs[j]?=some u∧ptr β q.1 q.2 u)→∀(j:Nat) (q:Nat×Nat),c'[j]?=some q→∃u,cs[j]?=some u∧ptr (σ.map fun b=>β.getD b 0) q.1 q.2 u
 | [],c',h=>by cases h;exact ⟨rfl,fun {cs} _ j q hq=>by simp at hq⟩
 | (b,o)::c,c',h=>by
  unfold idxs at h
  split at h
  ·rename_i b' l' e1 e2
   cases h
   obtain ⟨h1,h2⟩:=idxs_some (c:=c) e2
   refine ⟨by simp [h1],fun {cs} hc j q hq=>?_⟩
   cases j with
   | zero=>
    simp at hq
    subst hq
    obtain ⟨u,hu,hp⟩:=hc 0 (b,o) rfl
    exact ⟨u,hu,hp.ren e1⟩
   | succ j=>
    have:=h2 (cs:=cs.drop 1) (fun j q hq=>by obtain ⟨u,hu,hp⟩:=hc (j+1) q (by simpa using hq);exact ⟨u,by rw [List.getElem?_drop,Nat.add_comm];exact hu,hp⟩) j q (by simpa using hq)
    obtain ⟨u,hu,hp⟩:=this
    exact ⟨u,by rw [List.getElem?_drop,Nat.add_comm] at hu;exact hu,hp⟩
  ·cases h
theorem Rel.ren {β:List Nat} {ρ:List Value} (σ τ:List Nat) {x:T} {y:Value} (h:Rel β ρ x y):Rel (σ.map fun b=>β.getD b 0) (τ.map fun i=>ρ.getD i undef) (x.ren σ τ) y:=by
 have hrow:∀{i i':Nat} {v:Value},ρ[i]?=some v→idx τ i=some i'→(τ.map fun i=>ρ.getD i undef)[i']?=some v:=fun h hi=>by
  rw [List.getElem?_map,idx_some hi]
  simp [List.getD_eq_getElem?_getD,h]
 cases x with
 | any=>trivial
 | v x=>exact h
 | p b o=>
  unfold T.ren
  dsimp only
  split
  ·rename_i b' e;exact ptr.ren h e
  ·trivial
 | fn f c=>
  unfold T.ren
  dsimp only
  split
  ·rename_i c' e
   obtain ⟨cs,rfl,hl,hc⟩:=h
   obtain ⟨h1,h2⟩:=idxs_some e
   exact ⟨cs,rfl,hl.trans h1.symm,h2 hc⟩
  ·trivial
 | s b n=>
  unfold T.ren
  dsimp only
  split
  ·rename_i b' e
   obtain ⟨g,hg,rfl⟩:=h
   exact ⟨g,by rw [List.getElem?_map,idx_some e];simp [List.getD_eq_getElem?_getD,hg],rfl⟩
  ·trivial
 | r i=>
  unfold T.ren
  dsimp only
  split
  ·rename_i i' e;exact hrow h e
  ·trivial
 | q i o=>
  unfold T.ren
  dsimp only
  split
  ·rename_i i' e
   obtain ⟨v,g,hv,hg,rfl⟩:=h
   exact ⟨v,g,hrow hv e,hg,rfl⟩
  ·trivial
 | w i lo z=>
  unfold T.ren
  dsimp only
  split
  ·rename_i i' e
   obtain ⟨a,n,c,hv,hl,rfl⟩:=h
   exact ⟨a,n,c,hrow hv e,hl,rfl⟩
  ·trivial
theorem Rels.ren {β:List Nat} {ρ:List Value} (σ τ:List Nat) {t:List T} {l:List Value} (h:Rels β ρ t l):Rels (σ.map fun b=>β.getD b 0) (τ.map fun i=>ρ.getD i undef) (t.map (T.ren σ τ)) l:=by
 refine ⟨by rw [List.length_map];exact h.1,fun i x hx=>?_⟩
 rw [List.getElem?_map] at hx
 cases hi:t[i]? with
 | none=>rw [hi] at hx;cases hx
 | some z=>
  rw [hi] at hx
  obtain ⟨y,hy,hr⟩:=h.2 i z hi
  obtain rfl:z.ren σ τ=x:=Option.some.inj hx
  exact ⟨y,hy,hr.ren σ τ⟩
theorem nodupB_of:∀{l:List Nat},nodupB l=true→l.Nodup
 | [],_=>List.nodup_nil
 | x::l,h=>by
  simp only [nodupB,Bool.and_eq_true,Bool.not_eq_true'] at h
  exact List.nodup_cons.2 ⟨fun hm=>(by have:=List.contains_iff_mem.2 hm;rw [h.1] at this;exact absurd this (by simp)),nodupB_of h.2⟩
theorem Mem.ren {W:World} {G:Option Nat} {m:M} {β:List Nat} {ρ:List Value} {w:World} (h:Mem W G m β ρ w) {σ τ:List Nat} (h1:σ.Nodup) (h2:τ.Nodup) (h3:∀b∈σ,b<m.own.length) (h4:∀i∈τ,i<m.rows.length):Mem W G (m.ren σ τ) (σ.map fun b=>β.getD b 0) (τ.map fun i=>ρ.getD i undef) w:=by
 have gb:∀{b:Nat},b∈σ→β[b]?=some (β.getD b 0):=fun {b} hb=>by
  have:b<β.length:=by rw [h.bl];exact h3 b hb
  rw [List.getD_eq_getElem?_getD,List.getElem?_eq_getElem this];rfl
 have gr:∀{i:Nat},i∈τ→ρ[i]?=some (ρ.getD i undef):=fun {i} hi=>by
  have:i<ρ.length:=by rw [h.rl];exact h4 i hi
  rw [List.getD_eq_getElem?_getD,List.getElem?_eq_getElem this];rfl
 have at_b:∀{b g:Nat},(σ.map fun b=>β.getD b 0)[b]?=some g→∃b0,σ[b]?=some b0∧β[b0]?=some g:=fun {b g} hb=>by
  rw [List.getElem?_map] at hb
  cases hs:σ[b]? with
  | none=>rw [hs] at hb;cases hb
  | some b0=>
   rw [hs] at hb
   obtain rfl:=Option.some.inj hb
   exact ⟨b0,rfl,gb (List.mem_of_getElem? hs)⟩
 have at_r:∀{i:Nat} {v:Value},(τ.map fun i=>ρ.getD i undef)[i]?=some v→∃i0,τ[i]?=some i0∧ρ[i0]?=some v:=fun {i v} hi=>by
  rw [List.getElem?_map] at hi
  cases hs:τ[i]? with
  | none=>rw [hs] at hi;cases hi
  | some i0=>
   rw [hs] at hi
   obtain rfl:=Option.some.inj hi
   exact ⟨i0,rfl,gr (List.mem_of_getElem? hs)⟩
 have memb:∀{g:Nat},g∈(σ.map fun b=>β.getD b 0)→g∈β:=fun {g} hg=>by
  obtain ⟨b,hb,rfl⟩:=List.mem_map.1 hg
  exact List.mem_of_getElem? (gb hb)
 have memr:∀{v:Value},v∈(τ.map fun i=>ρ.getD i undef)→v∈ρ:=fun {v} hv=>by
  obtain ⟨i,hi,rfl⟩:=List.mem_map.1 hv
  exact List.mem_of_getElem? (gr hi)
 have inj:∀{σ:List Nat},σ.Nodup→∀{i j x:Nat},σ[i]?=some x→σ[j]?=some x→i=j:=fun {σ} hn {i j x} hi hj=>by
  obtain ⟨hi1,hi2⟩:=List.getElem?_eq_some_iff.1 hi
  obtain ⟨hj1,hj2⟩:=List.getElem?_eq_some_iff.1 hj
  exact (List.getElem_inj hn).1 (hi2.trans hj2.symm)
 constructor
 ·exact h.grown
 ·rw [List.Nodup,List.pairwise_iff_getElem]
  intro i j hi hj hij e
  have ei:=List.getElem?_eq_getElem hi
  have ej:=List.getElem?_eq_getElem hj
  obtain ⟨b1,s1,t1⟩:=at_b ei
  obtain ⟨b2,s2,t2⟩:=at_b ej
  rw [e] at t1
  have:=inj h.nd t1 t2
  subst this
  have:=inj h1 s1 s2
  omega
 ·simp [M.ren]
 ·exact fun g hg=>h.lo g (memb hg)
 ·intro b cs ty hb
  simp only [M.ren,List.getElem?_map] at hb
  cases hs:σ[b]? with
  | none=>rw [hs] at hb;cases hb
  | some b0=>
   rw [hs] at hb
   simp only [Option.map_some,Option.some.injEq,Option.map_eq_some_iff] at hb
   obtain ⟨⟨cs0,ty0⟩,hq,e⟩:=hb
   cases e
   obtain ⟨g,l,hg,hw,hr,ho⟩:=h.own b0 cs0 ty0 (Option.join_eq_some_iff.1 hq)
   refine ⟨g,l,?_,hw,hr.ren σ τ,ho⟩
   rw [List.getElem?_map,hs]
   simp [List.getD_eq_getElem?_getD,hg]
 ·simp [M.ren]
 ·intro i r hi
  simp only [M.ren,List.getElem?_map] at hi
  cases hs:τ[i]? with
  | none=>rw [hs] at hi;cases hi
  | some i0=>
   rw [hs] at hi
   simp only [Option.map_some,Option.some.injEq] at hi
   obtain ⟨v,hv,ho⟩:=h.row i0 r (Option.join_eq_some_iff.1 hi)
   exact ⟨v,by rw [List.getElem?_map,hs];simp [List.getD_eq_getElem?_getD,hv],ho⟩
 ·intro v hv g hg
  obtain ⟨a,b⟩:=h.rb v (memr hv) g hg
  exact ⟨fun hm=>a (memb hm),b⟩
 ·intro i j v u g hij hv hu
  obtain ⟨i0,s1,t1⟩:=at_r hv
  obtain ⟨j0,s2,t2⟩:=at_r hu
  refine h.rows i0 j0 v u g (fun e=>?_) t1 t2
  subst e
  exact hij (inj h2 s1 s2)
 ·intro φ hφ g hg
  obtain ⟨⟨a,b⟩,c⟩:=h.fact φ hφ g hg
  refine ⟨⟨fun x hx=>?_,fun i v hv e=>?_⟩,c⟩
  ·obtain ⟨b0,s1,t1⟩:=at_b hx
   simp only [M.ren,List.getElem?_map,s1,Option.map_some,Option.join_some]
   rw [a b0 t1];rfl
  ·obtain ⟨i0,s1,t1⟩:=at_r hv
   simp only [M.ren,List.getElem?_map,s1,Option.map_some,Option.join_some]
   rw [b i0 v t1 e]
theorem RelT.ren (σ τ:List Nat) {x:TD} {t:T} (h:RelT fs x t):RelT fs (x.ren σ τ) (t.ren σ τ):=by
 cases x with
 | any=>trivial
 | v x=>have h:t=.v x:=h;subst h;exact rfl
 | d s L=>obtain ⟨y,rfl,h⟩:=h;exact ⟨y,rfl,h⟩
 | g cs=>obtain ⟨y,rfl,h⟩:=h;exact ⟨y,rfl,h⟩
 | u cs=>obtain ⟨y,rfl,h⟩:=h;exact ⟨y,rfl,h⟩
 | e s L j o=>
  obtain ⟨A,xs,ad,rfl,h⟩:=h
  exact ⟨A,xs,ad,rfl,h⟩
 | p b o=>
  have h:t=_:=h
  subst h
  unfold TD.ren T.ren
  dsimp only
  cases idx σ b with
  | none=>trivial
  | some b'=>exact rfl
 | fn f c=>
  have h:t=_:=h
  subst h
  unfold TD.ren T.ren
  dsimp only
  cases idxs σ c with
  | none=>trivial
  | some b'=>exact rfl
 | s b n=>
  have h:t=_:=h
  subst h
  unfold TD.ren T.ren
  dsimp only
  cases idx σ b with
  | none=>trivial
  | some b'=>exact rfl
 | r i=>
  have h:t=_:=h
  subst h
  unfold TD.ren T.ren
  dsimp only
  cases idx τ i with
  | none=>trivial
  | some b'=>exact rfl
 | q i z j o=>
  have h:t=_:=h
  subst h
  unfold TD.ren T.ren
  dsimp only
  cases idx τ i with
  | none=>trivial
  | some b'=>exact rfl
theorem RM.ren {md:MD} {m:M} (h:RM Ob fs md m) (σ τ:List Nat):RM Ob fs (md.ren σ τ) (m.ren σ τ):=by
 refine ⟨h.fe,h.ob,by simp [MD.ren,M.ren],fun b cs ty hb=>?_,by simp [MD.ren,M.ren],fun i r hi=>?_⟩
 ·simp only [MD.ren,List.getElem?_map] at hb
  cases hs:σ[b]? with
  | none=>rw [hs] at hb;cases hb
  | some b0=>
   rw [hs] at hb
   simp only [Option.map_some,Option.some.injEq,Option.map_eq_some_iff] at hb
   obtain ⟨⟨cs0,ty0⟩,hq,e⟩:=hb
   cases e
   obtain ⟨ts,g1,g2⟩:=h.own b0 cs0 ty0 (Option.join_eq_some_iff.1 hq)
   refine ⟨ts.map (T.ren σ τ),?_,g2.map fun _ _=>RelT.ren σ τ⟩
   simp only [M.ren,List.getElem?_map,hs,Option.map_some,g1,Option.join_some]
 ·simp only [MD.ren,List.getElem?_map] at hi
  cases hs:τ[i]? with
  | none=>rw [hs] at hi;cases hi
  | some i0=>
   rw [hs] at hi
   simp only [Option.map_some,Option.some.injEq] at hi
   obtain ⟨xs,g1,g2⟩:=h.row i0 r (Option.join_eq_some_iff.1 hi)
   refine ⟨xs,?_,g2⟩
   simp only [M.ren,List.getElem?_map,hs,Option.map_some,g1,Option.join_some]
def Tk (W:World) (G:Option Nat) (m:M) (t:List T) (m':M) (t':List T):Prop:=∀(β:List Nat) (ρ:List Value) (a:Act) (w:World),Mem W G m β ρ w→Rels β ρ t a.tmps.toList→∃β' ρ',Mem W G m' β' ρ' w∧Rels β' ρ' t' a.tmps.toList
theorem Le.tk {W:World} {G:Option Nat} {m m':M} {t t':List T} (h:Le m t m' t'):Tk W G m t m' t':=fun β ρ a w hm hr=>⟨_,_,(h.use hm hr).1,(h.use hm hr).2⟩
theorem grabN_at {W:World} {G:Option Nat} {h:Lay} {md:MD} {td:List TD} {m:M} {t:List T} {x:h.T} (hg:grabN h md td=some x) (hm:RM Ob fs md m) (ht:RTs fs td t):∃m' t',Tk W G m t m' t'∧RM Ob fs (lay h x).1 m'∧RTs fs (lay h x).2 t':=by
 unfold grabN at hg
 dsimp only at hg
 split at hg
 ·rename_i σ τ _ _
  rw [gd_some,Bool.and_eq_true,Bool.and_eq_true,Bool.and_eq_true] at hg
  obtain ⟨⟨⟨⟨g1,g2⟩,g3⟩,g4⟩,hg⟩:=hg
  obtain ⟨m',t',hle,h1,h2⟩:=grab_at hg (hm.ren σ τ) (ht.map fun _ _=>RelT.ren σ τ)
  refine ⟨m',t',fun β ρ a w hM hR=>?_,h1,h2⟩
  have hM':=hM.ren (nodupB_of g1) (nodupB_of g2) (fun b hb=>by rw [← hm.ol];simpa [Nat.blt_eq] using List.all_eq_true.1 g3 b hb) (fun i hi=>by rw [← hm.rl];simpa [Nat.blt_eq] using List.all_eq_true.1 g4 i hi)
  exact hle.tk _ _ a w hM' (hR.ren σ τ)
 ·cases hg
theorem grabE_at:∀{l:List (Exit×Lay)} {e:Exit} {md:MD} {td:List TD} {y:ExT l},grabE l e md td=some y→∃(h:Lay) (x:h.T),grabN h md td=some x∧∀{R:Type} (k:XE R),contE l y k=k e (lay h x).1 (lay h x).2
 | [],e,md,td,y,h=>by cases h
 | (e0,h0)::l,e,md,td,y,h=>by
  unfold grabE at h
  split at h
  ·rename_i e1
   split at h
   ·rename_i x e2
    cases h
    have:=exEq_of e1
    subst this
    exact ⟨h0,x,e2,fun k=>rfl⟩
   ·cases h
  ·split at h
   ·rename_i y' e2
    cases h
    obtain ⟨h1,x,a,b⟩:=grabE_at e2
    exact ⟨h1,x,a,fun k=>b k⟩
   ·cases h
end
end Go.Proofs.YtdbjakibneeeiaaGreatDoor.Sx
