/- What code comes to, reckoned: data in, data out. -/
import Derived.Test.YtdbjakibneeeiaaGreatDoorKG23DxN
import Derived.Laws.StructEq
import Derived.ChangeKeysEq
set_option linter.all false
set_option maxHeartbeats 4000000
set_option maxRecDepth 100000
namespace Go.Proofs.YtdbjakibneeeiaaGreatDoor.Sx
open Go.RowKit
structure bI where
 ps:List Sh
 rs:List Sh
 F:af ps→Option (af rs)
structure Gz where
 ps:List Sh
 s:Sh
 e:TypeId
 size:Nat
 F:af ps→Option (List (Den s))
def bI.fG (S:bI):B4:=⟨S.ps,S.rs,fun x=>(S.F x).isSome=true,fun x=>(S.F x).getD (Sh.zL S.rs)⟩
def Gz.fG (S:Gz):I0:=⟨S.ps,S.s,S.e,S.size,fun x=>(S.F x).isSome=true,fun x=>(S.F x).getD []⟩
structure EE where
 sy:List (TypeId×Sh)
 sm:List (FuncId×bI)
 fr:List (FuncId×Gz)
 idc:List ((TypeId×TypeId)×Unit)
def Ao {α β γ:Type} (f:β→γ):List (α×β)→List (α×γ)
 | []=>[]
 | (a,b)::l=>(a,f b)::Ao f l
def EE.gM (D:EE):DE:=⟨D.sy,Ao bI.fG D.sm,Ao Gz.fG D.fr,D.idc⟩
def rJ {α β γ:Type} [BEq α] (f:β→γ):∀(l:List (α×β)) (x:α),lk (Ao f l) x=(lk l x).map f
 | [],x=>rfl
 | (a,b)::l,x=>by
  simp only [Ao,lk]
  cases a==x with
  | true=>rfl
  | false=>exact rJ f l x
variable {R : Type}
def gd (b:Bool) (o:Option R):Option R:=match b with | true=>o | false=>none
def aC {b:Bool} {o:Option R} {r:R}:gd b o=some r↔b=true∧o=some r:=by
 cases b with
 | true=>exact ⟨fun h=>⟨rfl,h⟩,fun h=>h.2⟩
 | false=>exact ⟨fun h=>(by cases h),fun h=>(by cases h.1)⟩
def az (c:Bool) (x y:Option R):Option R:=match c with | true=>x | false=>y
def J0 {c:Bool} {x y:Option R} {r:R} {p q:Prop} (h:az c x y=some r) (h1:x=some r→p) (h2:y=some r→q):Qu c p q:=by
 cases c
 ·exact h2 h
 ·exact h1 h
class Same (R:Type) where
 eq:R→R→Bool
 of:∀{x y:R},eq x y=true→x=y
def both [Same R] (x y:Option R):Option R:=match x,y with
 | some a,some b=>gd (Same.eq a b) (some a)
 | _,_=>none
def fP [Same R] {x y:Option R} {r:R} (h:both x y=some r):x=some r∧y=some r:=by
 unfold both at h
 split at h
 ·rw [aC] at h
  obtain ⟨h1,h2⟩:=h
  have:=Same.of h1
  subst this
  exact ⟨h2,h2⟩
 ·cases h
def dx (x:Int):Bool:=decide (-9223372036854775808≤x)&&decide (x≤9223372036854775807)
def kr {x:Int}:dx x=true↔-9223372036854775808≤x∧x≤9223372036854775807:=by simp [dx]
def di (j:Int) (n:Nat):Bool:=decide (0≤j)&&decide (j<(n:Int))
def bC {j:Int} {n:Nat}:di j n=true↔0≤j∧j<(n:Int):=by simp [di]
abbrev XK (R:Type):=MD→List TD→TD→Option R
abbrev XM (R:Type):=MD→List TD→Option R
def Fq (E:Env) (st:Bool) (ty:TypeId) (a:TD) (md0 md:MD) (td:List TD) (k:XK R):Option R:=
 match lk E.agg ty with
 | none=>none
 | some ag=>match a with
  | .p b off=>match (md0.own[b]?).join with
   | some (cs,_)=>match iZ ag cs off with
    | some x=>k md td x
    | none=>none
   | none=>none
  | .q i sz j off=>match (md0.rows[i]?).join with
   | some r=>match iZ ag (eR r.s (r.l.getD j (Sh.z r.s))) off with
    | some x=>gd (sz==r.size) (gd (decide (j<r.l.length)) (k md td x))
    | none=>none
   | none=>none
  | .e s L j off=>match iZ ag (eR s (L.getD j (Sh.z s))) off with
   | some x=>gd st (gd (decide (j<L.length)) (k md td x))
   | none=>none
  | _=>none
def me (sy:List (TypeId×Sh)) (x:TD) (md:MD) (td:List TD) (k:TD→MD→List TD→Option R):Option R:=
 match x with
 | .any=>none
 | .r i=>match (md.rows[i]?).join with
  | some r=>k (.d r.s r.l) (MD.oD { md with rows:=md.rows.set i none } (lG i (.d r.s r.l))) (td.map (lG i (.d r.s r.l)))
  | none=>none
 | .s b n=>match (md.own[b]?).join with
  | some (cs,ty)=>match lk sy ty with
   | some s=>match oh s n cs with
    | some L=>gd (dvals cs&&Nat.ble n 1000) (k (.d s L) (MD.oD { md with own:=md.own.set b none } (yX b n (.d s L))) (td.map (yX b n (.d s L))))
    | none=>none
   | none=>none
  | none=>none
 | x=>k x md td
def sN (sy:List (TypeId×Sh)):List TD→MD→List TD→XM R→Option R
 | [],md,td,k=>k md td
 | x::l,md,td,k=>me sy x md td (fun _ md td=>sN sy l md td k)
def cW (sy:List (TypeId×Sh)) (x:TD) (md:MD) (td:List TD) (k:TD→MD→List TD→Option R):Option R:=
 match x with
 | .s b n=>match (md.own[b]?).join with
  | some (cs,_)=>sN sy cs md td (fun md td=>me sy (.s b n) md td k)
  | none=>none
 | x=>me sy x md td k
def fS (sy:List (TypeId×Sh)):List TD→MD→List TD→(List TD→MD→List TD→Option R)→Option R
 | [],md,td,k=>k [] md td
 | x::l,md,td,k=>cW sy x md td (fun y md td=>fS sy l md td (fun ys md td=>k (y::ys) md td))
def Ez (D:EE) (g:FuncId) (xs:List TD) (md:MD) (td:List TD) (k:XK R):Option R:=
 match lk D.sm g with
 | some S=>match iE S.ps xs with
  | some x=>match S.F x with
   | some y=>k md td (Fe S.rs y)
   | none=>none
  | none=>none
 | none=>none
def Eu (D:EE) (g:FuncId) (e:TypeId) (size:Nat) (xs:List TD) (md:MD) (td:List TD) (k:XK R):Option R:=
 match lk D.fr g with
 | some S=>match iE S.ps xs with
  | some x=>gd (e==S.e&&size==S.size&&size==S.s.size) (match S.F x with
   | some y=>k { md with rows:=md.rows++[some ⟨e,size,S.s,y⟩] } td (.r md.rows.length)
   | none=>none)
  | none=>none
 | none=>none
def xP (E:Env) (D:EE) (q:Bool) (g:FuncId) (args:List TD) (md:MD) (td:List TD) (k:XK R):Option R:=
 match ju E q g with
 | none=>fS D.sy args md td (fun xs md td=>Ez D g xs md td k)
 | some (.fresh e size)=>fS D.sy args md td (fun xs md td=>Eu D g e size xs md td k)
 | _=>none
def Fy (tw:Bool) (op:BinOp) (a b:Int) (k:TD→Option R):Option R:=
 match op with
 | .add=>match tw with | true=>k (.v (.int .i64 (IntKind.i64.wrap (a+b)))) | false=>gd (dx (a+b)) (k (.v (.int .i64 (a+b))))
 | .sub=>match tw with | true=>k (.v (.int .i64 (IntKind.i64.wrap (a - b)))) | false=>gd (dx (a - b)) (k (.v (.int .i64 (a - b))))
 | .mul=>match tw with | true=>k (.v (.int .i64 (IntKind.i64.wrap (a*b)))) | false=>gd (dx (a*b)) (k (.v (.int .i64 (a*b))))
 | .eql=>k (.v (.bool (a==b)))
 | .neq=>k (.v (.bool (a != b)))
 | .lss=>k (.v (.bool (decide (a<b))))
 | .leq=>k (.v (.bool (decide (a≤b))))
 | .gtr=>k (.v (.bool (decide (a>b))))
 | .geq=>k (.v (.bool (decide (a≥b))))
 | _=>none
def x4 (E:Env) (D:EE) (ty:TypeId) (a x:TD) (md:MD) (td:List TD) (k:XK R):Option R:=
 match a with
 | .p b off=>match x with
  | .r i=>match (md.own[b]?).join,lk E.agg ty with
   | some (cs,e),some none=>gd ((md.rows[i]?).join.isSome&&Nat.blt off cs.length&&E.keep) (k (md.cC b (cs.set off (.r i)) e) td (.v undef))
   | _,_=>none
  | .any=>none
  | x=>cW D.sy x md td (fun x md td=>match (md.own[b]?).join with
   | some (cs,e)=>match fC x,lk E.agg ty with
    | some xs,some n=>gd (xs.length==n.getD 1&&Nat.ble (off+xs.length) cs.length&&dH xs) (k (md.cC b (fI cs off xs) e) td (.v undef))
    | _,_=>none
   | none=>none)
 | .q i sz j off=>match (md.rows[i]?).join,fC x,lk E.agg ty with
  | some r,some xs,some n=>match fM r.s (fI (eR r.s (r.l.getD j (Sh.z r.s))) off xs) with
   | some (y,[])=>gd (xs.length==n.getD 1&&dH xs&&dvals xs&&sz==r.size&&Nat.ble (off+xs.length) r.s.size) (gd (decide (j<r.l.length)) (k { md with rows:=md.rows.set i (some ⟨r.e,r.size,r.s,r.l.set j y⟩) } td (.v undef)))
   | _=>none
  | _,_,_=>none
 | _=>none
def nu (E:Env) (ty:TypeId) (x i:TD) (md:MD) (td:List TD) (k:XK R):Option R:=
 match lk E.row ty with
 | some (_,size,_)=>match x,i with
  | .d s L,.v (.int .i64 j)=>gd (size==s.size) (gd (di j L.length) (k md td (.e s L j.toNat 0)))
  | .r q,.v (.int .i64 j)=>match (md.rows[q]?).join with
   | some r=>gd (r.size==size) (gd (di j r.l.length) (k md td (.q q size j.toNat 0)))
   | none=>none
  | _,_=>none
 | none=>match x,i with
  | .p b o,.v (.int .i64 j)=>match lk E.arr ty with
   | some (n,size)=>gd (di j n) (k md td (.p b (o+j.toNat*size)))
   | none=>none
  | _,_=>none
def Cm (D:EE) (e:TypeId) (size bytes:Nat) (i:Nat) (r:kP) (y:TD) (md:MD) (td:List TD) (k:XK R):Option R:=
 match (match y with
  | .s b n=>match (md.own[b]?).join with
   | some (cs,_)=>bif dvals cs then oh r.s n cs else none
   | none=>none
  | .d s L=>Sh.jA s r.s L
  | .v (.slice none 0 0)=>some []
  | _=>none) with
 | some L=>gd (Nat.ble (r.l.length+L.length) maxLen&&Nat.ble ((r.l.length+L.length)*bytes) 140737488355328) (k (MD.oD { md with rows:=md.rows.set i (some ⟨e,size,r.s,r.l++L⟩) } (lG i .any)) (td.map (lG i .any)) (.r i))
 | none=>none
def EY (D:EE) (e:TypeId) (size bytes:Nat) (x y:TD) (md:MD) (td:List TD) (k:XK R):Option R:=
 match x with
 | .r i=>match (md.rows[i]?).join with
  | some r=>gd (r.e==e&&r.size==size) (Cm D e size bytes i r y md td k)
  | none=>none
 | .v (.slice none 0 0)=>match lk D.sy e with
  | some s=>gd (s.size==size) (Cm D e size bytes md.rows.length ⟨e,size,s,[]⟩ y { md with rows:=md.rows++[some ⟨e,size,s,[]⟩] } td k)
  | none=>none
 | _=>none
end Go.Proofs.YtdbjakibneeeiaaGreatDoor.Sx
namespace Go.Proofs.YtdbjakibneeeiaaGreatDoor.Sx
open Go.RowKit
def Eg (a b:ByteArray):Bool:=decide (a=b)
def Io (P:Program) (g:TypeId→List Value→List Value→Option Bool):List Field→List Value→List Value→Option Bool
 | [],_,_=>some true
 | f::fs,xs,ys=>match f.name == "_" with
  | true=>none
  | false=>match g f.type ((xs.drop f.offset).take (P.cellsOf f.type)) ((ys.drop f.offset).take (P.cellsOf f.type)) with
   | none=>none
   | some a=>match Io P g fs xs ys with
    | some b=>some (a&&b)
    | none=>none
def IW (P:Program):Nat→TypeId→List Value→List Value→Option Bool
 | 0,_,_,_=>none
 | d+1,t,xs,ys=>match P.underlying t with
  | some (.int .i64)=>match xs,ys with
   | [.int .i64 a],[.int .i64 b]=>some (a==b)
   | _,_=>none
  | some .bool=>match xs,ys with
   | [.bool a],[.bool b]=>some (a==b)
   | _,_=>none
  | some .string=>match xs,ys with
   | [.string a],[.string b]=>some (Eg a b)
   | _,_=>none
  | some (.struct fs)=>match P.stoodInHeld t with
   | true=>none
   | false=>Io P (IW P d) fs.toList xs ys
  | _=>none
def mI (P:Program) (t:TypeId) (xs:List Value):Value:=match P.underlying t with
 | some (.struct _)=>.agg xs.toArray
 | _=>xs.headD undef
def CJ (a b:ByteArray):(a.toList==b.toList)=Eg a b:=by
 rw [← beq_toListBytes]
 obtain ⟨⟨x⟩⟩:=a
 obtain ⟨⟨y⟩⟩:=b
 show ((⟨x⟩:Array UInt8)==⟨y⟩)=decide ((⟨⟨x⟩⟩:ByteArray)=⟨⟨y⟩⟩)
 rw [Bool.eq_iff_iff]
 simp
def yQ {P:Program} {t:TypeId} {xs:List Value} {off:Nat} {w:World} (h:(∃fs,P.underlying t=some (.struct fs))∨(∃d v,P.underlying t=some d∧(match d with | .struct _ | .array _ _=>true | _=>false)=false∧(xs.drop off).take (P.cellsOf t)=[v])):(part t xs.toArray off).run P w=.ok (mI P t ((xs.drop off).take (P.cellsOf t))) w:=by
 rcases h with ⟨fs,hu⟩ | ⟨d,v,hu,hd,hv⟩
 ·obtain ⟨i,hi⟩:=info_of_underlying hu
  have e:mI P t ((xs.drop off).take (P.cellsOf t))=.agg ((xs.drop off).take (P.cellsOf t)).toArray:=by unfold mI;rw [hu]
  rw [e]
  simp only [part,isAgg,Sem.run_bind,run_underlying hu,Result.andThen_ok,Sem.run_pure,if_true,run_sizeOf w hi]
  simp
 ·have hx:=getElem?_of_chunk (xs:=xs.toArray) (off:=off) (c:=P.cellsOf t) (a:=v) (by simpa using hv)
  have e:mI P t ((xs.drop off).take (P.cellsOf t))=v:=by
   unfold mI
   rw [hu,hv]
   cases d <;> first | rfl | cases hd
  rw [e]
  have hp:(isAgg t).run P w=.ok false w:=by
   simp only [isAgg,Sem.run_bind,run_underlying hu,Result.andThen_ok]
   cases d <;> first | rfl | cases hd
  simp only [part,Sem.run_bind,hp,Result.andThen_ok,Bool.false_eq_true,if_false,hx,Sem.run_pure]
def yJ {P:Program}:∀{d:Nat} {t:TypeId} {xs ys:List Value} {c:Bool},IW P d t xs ys=some c→(∃fs,P.underlying t=some (.struct fs))∨∃q v u,P.underlying t=some q∧(match q with | .struct _ | .array _ _=>true | _=>false)=false∧xs=[v]∧ys=[u]
 | 0,_,_,_,_,h=>by cases h
 | d+1,t,xs,ys,c,h=>by
  unfold IW at h
  split at h
  ·rename_i hu
   split at h
   ·exact .inr ⟨_,_,_,hu,rfl,rfl,rfl⟩
   ·cases h
  ·rename_i hu
   split at h
   ·exact .inr ⟨_,_,_,hu,rfl,rfl,rfl⟩
   ·cases h
  ·rename_i hu
   split at h
   ·exact .inr ⟨_,_,_,hu,rfl,rfl,rfl⟩
   ·cases h
  ·rename_i fs hu
   exact .inl ⟨fs,hu⟩
  ·cases h
def x6 {P:Program}:∀{d:Nat} {t:TypeId} {xs ys:List Value} {c:Bool},IW P d t xs ys=some c→∀{D:Nat},d≤D→∀w,(Op.equalIn D t (mI P t xs) (mI P t ys)).run P w=.ok c w
 | 0,_,_,_,_,h,_,_,_=>by cases h
 | d+1,t,xs,ys,c,h,D,hD,w=>by
  obtain ⟨D,rfl⟩:∃D',D=D'+1:=⟨D - 1,by omega⟩
  unfold IW at h
  split at h
  ·rename_i hu
   split at h
   ·cases h
    unfold mI;rw [hu]
    exact run_equalIn_int w D t .i64 .i64 _ _ hu
   ·cases h
  ·rename_i hu
   split at h
   ·cases h
    unfold mI;rw [hu]
    exact run_equalIn_bool' w D t _ _ hu
   ·cases h
  ·rename_i hu
   split at h
   ·cases h
    unfold mI;rw [hu]
    rw [← CJ]
    exact run_equalIn_string w D t _ _ hu
   ·cases h
  ·rename_i fs hu
   split at h
   ·cases h
   ·rename_i hp
    have hf:P.fieldsOf t=fs:=by unfold Program.fieldsOf;rw [hu]
    have e:∀xs:List Value,mI P t xs=.agg xs.toArray:=fun xs=>by unfold mI;rw [hu]
    rw [e,e,run_equalIn_struct w D t _ _ (by rw [hf];exact hu) hp,hf]
    have key:∀(l:List Field) {c:Bool} (w:World),Io P (IW P d) l xs ys=some c→(Op.eqFields D xs.toArray ys.toArray l).run P w=.ok c w:=by
     intro l
     induction l with
     | nil=>intro c w h;cases h;rfl
     | cons f l ih=>
      intro c w h
      unfold Io at h
      split at h
      ·cases h
      ·rename_i hn
       split at h
       ·cases h
       ·rename_i a ha
        split at h
        ·rename_i b hb
         cases h
         have hn:f.name≠"_":=by simpa using hn
         have k1:∀w,(part f.type xs.toArray f.offset).run P w=.ok (mI P f.type ((xs.drop f.offset).take (P.cellsOf f.type))) w:=fun w=>yQ ((yJ ha).imp id fun ⟨q,v,u,h1,h2,h3,h4⟩=>⟨q,v,h1,h2,h3⟩)
         have k2:∀w,(part f.type ys.toArray f.offset).run P w=.ok (mI P f.type ((ys.drop f.offset).take (P.cellsOf f.type))) w:=fun w=>yQ ((yJ ha).imp id fun ⟨q,v,u,h1,h2,h3,h4⟩=>⟨q,u,h1,h2,h4⟩)
         have k3:=fun w=>x6 ha (D:=D) (by omega) w
         simp only [Op.eqFields,if_pos hn,Sem.run_bind,k1,k2,k3,Result.andThen_ok]
         cases a with
         | true=>simpa using ih w hb
         | false=>simp
        ·cases h
    exact key fs.toList w h
  ·cases h
def N9 (op:BinOp) (a b:Value):Option (List Value×List Value×Bool):=match a,b with
 | .agg xs,.agg ys=>match op with
  | .eql=>some (xs.toList,ys.toList,false)
  | .neq=>some (xs.toList,ys.toList,true)
  | _=>none
 | _,_=>none
def isStr (P:Program) (t:TypeId):Bool:=match P.underlying t with
 | some (.struct _)=>true
 | _=>false
def QB (ng c:Bool):Bool:=match ng with | true=>!c | false=>c
def FT {P:Program} {op:BinOp} {ty:TypeId} {x y:Operand} {a b:Value} {xs ys:List Value} {ng c:Bool} (h:N9 op a b=some (xs,ys,ng)) (hg:P.eqGuardType P.depth ty=false) (hs:isStr P ty=true) (he:IW P 9 ty xs ys=some c) (w:World) :
  (do eqGuard op ty x y a b;pure (.value (← binOp op ty a b)):Sem Next).run P w=.ok (.value (.bool (QB ng c))) w:=by
 have hu:∃fs,P.underlying ty=some (.struct fs):=by
  unfold isStr at hs
  split at hs
  ·rename_i fs hu;exact ⟨fs,hu⟩
  ·cases hs
 obtain ⟨fs,hu⟩:=hu
 have ev:∀zs:Array Value,mI P ty zs.toList=.agg zs:=fun zs=>by unfold mI;rw [hu]
 cases a with
 | agg xs'=>
  cases b with
  | agg ys'=>
   cases op with
   | eql=>
    cases h
    have k:=x6 he (D:=10000) (by omega) w
    rw [ev,ev] at k
    simp only [Sem.run_bind,run_eqGuard_agg w _ _ _ _ _ _ hg,run_eql_struct,k,Result.andThen_ok,Sem.run_pure,QB]
   | neq=>
    cases h
    have k:=x6 he (D:=10000) (by omega) w
    rw [ev,ev] at k
    simp only [Sem.run_bind,run_eqGuard_agg w _ _ _ _ _ _ hg,run_neq_struct,k,Result.andThen_ok,Sem.run_pure,QB]
   | _=>cases h
  | _=>cases h
 | _=>cases h
end Go.Proofs.YtdbjakibneeeiaaGreatDoor.Sx
namespace Go.Proofs.YtdbjakibneeeiaaGreatDoor.Sx
open Go.RowKit
def QT {α:Type} (P:Program):Sem α→Option α
 | .pure a=>some a
 | .program k=>QT P (k P)
 | _=>none
def Ce {α:Type} {P:Program}:∀{s:Sem α} {a:α},QT P s=some a→∀w,s.run P w=.ok a w
 | .pure b,a,h,w=>by cases h;rfl
 | .program k,a,h,w=>Ce (s:=k P) h w
variable {R : Type}
def kZ (P:Program) (s:Sem Next) (k:Value→Option R):Option R:=match QT P s with
 | some (.value v)=>k v
 | _=>none
def iL {P:Program} {s:Sem Next} {ke:Value→Option R} {kd:Value→Prop} {r:R} (h:kZ P s ke=some r) (K:∀v,ke v=some r→kd v):jr P s kd:=by
 unfold kZ at h
 split at h
 ·rename_i v e
  exact ⟨v,fun w=>Ce e w,K v h⟩
 ·cases h
def Ki (P:Program) (op:BinOp) (ty:TypeId) (x y:Operand) (a b:Value) (k:Value→Option R):Option R:=match N9 op a b with
 | some (xs,ys,ng)=>gd (!P.eqGuardType P.depth ty&&isStr P ty) (match IW P 9 ty xs ys with
  | some c=>k (.bool (QB ng c))
  | none=>none)
 | none=>kZ P (do eqGuard op ty x y a b;pure (.value (← binOp op ty a b))) k
def FG {P:Program} {op:BinOp} {ty:TypeId} {x y:Operand} {a b:Value} {ke:Value→Option R} {kd:Value→Prop} {r:R} (h:Ki P op ty x y a b ke=some r) (K:∀v,ke v=some r→kd v):jr P (do eqGuard op ty x y a b;pure (.value (← binOp op ty a b))) kd:=by
 unfold Ki at h
 split at h
 ·rename_i xs ys ng e
  rw [aC,Bool.and_eq_true,Bool.not_eq_true'] at h
  obtain ⟨⟨h1,h2⟩,h⟩:=h
  split at h
  ·rename_i c hc
   exact ⟨_,fun w=>FT e h1 h2 hc w,K _ h⟩
  ·cases h
 ·exact iL h K
def kW (P:Program) (E:Env) (D:EE) (o:Oper) (st:Bool) (md0 md:MD) (td:List TD) (k:XK R):Option R:=
 match o.op with
 | .move x=>k md td (dev td x)
 | .assign x=>k md td (dev td x)
 | .pick c a b=>match dev td c with
  | .v (.bool c)=>az c (k md td (dev td a)) (k md td (dev td b))
  | _=>none
 | .alloc e=>match lk E.zero e,lk D.sy e with
  | some cs,some s=>k (md.alloc (oF s) e) td (.p md.own.length 0)
  | _,_=>none
 | .box e x=>match fC (dev td x) with
  | some xs=>gd (dH xs) (k (md.alloc xs e) td (.p md.own.length 0))
  | none=>none
 | .load ty a=>Fq E st ty (dev td a) md0 md td k
 | .store ty a x=>x4 E D ty (dev td a) (dev td x) md td k
 | .fieldAddr s x f=>match lk E.off (s,f) with
  | some d=>match dev td x with
   | .p b o=>k md td (.p b (o+d))
   | .q i sz j o=>k md td (.q i sz j (o+d))
   | .e s L j o=>k md td (.e s L j (o+d))
   | _=>none
  | none=>none
 | .indexAddr ty x i=>nu E ty (dev td x) (dev td i) md td k
 | .index ty x i=>match Jb (dev td x),dev td i with
  | .v u,.v b=>kZ P (do pure (.value (← Instr.index ty u b))) (fun v=>k md td (.v v))
  | _,_=>none
 | .binOp op ty x y z=>match Jb (dev td x),Jb (dev td y) with
  | .v (.int .i64 a),.v (.int .i64 b)=>match yO op with
   | true=>Fy E.turns op a b (fun v=>k md td v)
   | false=>kZ P (do eqGuard op ty x y (.int .i64 a) (.int .i64 b);pure (.value (← binOp op ty (.int .i64 a) (.int .i64 b)))) (fun v=>k md td (.v v))
  | .v a,.v b=>Ki P op ty x y a b (fun v=>k md td (.v v))
  | _,_=>none
 | .unOp .not _ x=>match dev td x with
  | .v (.bool b)=>k md td (.v (.bool !b))
  | _=>none
 | .unOp .neg _ x=>match dev td x with
  | .v (.int .i64 a)=>gd (dx (-a)) (k md td (.v (.int .i64 (-a))))
  | _=>none
 | .convert src dst x=>match dev td x with
  | .v u=>kZ P (do pure (.value (← convert src dst u))) (fun v=>k md td (.v v))
  | .any=>none
  | y=>match lk D.idc (src,dst),dB.dvalQ y with
   | some _,true=>k md td y
   | _,_=>none
 | .extract x i=>match dev td x with
  | .u vs=>match vs[i]? with
   | some v=>k md td v
   | none=>none
  | .v (.tuple vs)=>match vs.toList[i]? with
   | some v=>k md td (.v v)
   | none=>none
  | _=>none
 | .build ty parts=>match lk E.str ty,lk D.sy ty with
  | some (_,places),some s=>match oE places (oF s) (parts.toList.map fun q=>(q.1,dev td q.2)) with
   | some cs=>gd (dvals cs) (k md td (.g cs))
   | none=>none
  | _,_=>none
 | .buildSlice ty n parts=>match lk E.row ty with
  | some (e,size,_)=>match lk D.sy e with
   | some s=>match n==0 with
    | true=>gd (!(E.quiet||parts.size != 0 || !(s.size==size))) (k { md with rows:=md.rows++[some ⟨e,size,s,[]⟩] } td (.r md.rows.length))
    | false=>match lk E.zero e,oE (eu n size 0) (eG n (oF s)) (parts.toList.map fun q=>(q.1,dev td q.2)) with
     | some _,some cs=>gd (dH cs&&s.size==size&&Nat.ble (n*size) 1000) (k (md.alloc cs e) td (.s md.own.length n))
     | _,_=>none
   | none=>none
  | none=>none
 | .makeSlice ty l c=>match lk E.row ty,dev td l,dev td c with
  | some (e,size,bytes),.v (.int .i64 j),.v (.int .i64 c)=>match lk E.zero e,lk D.sy e with
   | some _,some s=>gd (s.size==size&&(!E.quiet||E.made)) (gd (decide (0≤j)&&decide (j=c)&&decide (j≤140737488355328)&&Nat.ble (bytes*j.toNat) 140737488355328) (k { md with rows:=md.rows++[some ⟨e,size,s,List.replicate j.toNat (Sh.z s)⟩] } td (.r md.rows.length)))
   | _,_=>none
  | _,_,_=>none
 | .slice ty x lo hi none=>match lk E.row ty,dev td x with
  | some (_,size,_),.d s L=>match lo,hi with
   | none,some h=>match dev td h with
    | .v (.int .i64 j)=>gd (size==s.size) (gd (decide (0≤j)&&decide (j≤L.length)) (k md td (.d s (L.take j.toNat))))
    | _=>none
   | some l,none=>match dev td l with
    | .v (.int .i64 j)=>gd (size==s.size) (gd (decide (0≤j)&&decide (j≤L.length)) (k md td (.d s (L.drop j.toNat))))
    | _=>none
   | _,_=>none
  | _,.v u=>match lo,hi with
   | none,some h=>match dev td h with
    | .v b=>kZ P (do pure (.value (← Instr.sliceAt ty u none (some b) none))) (fun v=>k md td (.v v))
    | _=>none
   | some l,none=>match dev td l with
    | .v b=>kZ P (do pure (.value (← Instr.sliceAt ty u (some b) none none))) (fun v=>k md td (.v v))
    | _=>none
   | _,_=>none
  | _,_=>none
 | .field ty x i=>match dev td x with
  | .g cs=>match su P ty i cs with
   | some y=>k md td y
   | none=>none
  | .v u=>kZ P (do pure (.value (← Instr.field ty u i))) (fun v=>k md td (.v v))
  | _=>none
 | .call c=>match c.callee with
  | .value (.func g)=>xP E D false g (c.args.toList.map (dev td)) md td k
  | .value f=>match qQ (dev td f) with
   | some g=>xP E D true g (c.args.toList.map (dev td)) md td k
   | none=>none
  | .builtin .len=>match c.args.toList,c.argTypes.toList with
   | [x],[ty]=>match CZ E ty (dev td x) md with
    | some v=>k md td (.v v)
    | none=>none
   | _,_=>none
  | .builtin .append=>match c.args.toList,c.argTypes.toList with
   | [x,y],[ty,ty2]=>match lk E.row ty with
    | some (e,size,bytes)=>gd (ty==ty2 && !E.quiet) (EY D e size bytes (dev td x) (dev td y) md td k)
    | none=>none
   | _,_=>none
  | .builtin .min=>match dh (c.args.toList.map (dev td)) with
   | some vs=>kZ P (do pure (.value (← Builtin.min_ c.argTypes o.type (List.toArray vs)))) (fun v=>k md td (.v v))
   | none=>none
  | .builtin .max=>match dh (c.args.toList.map (dev td)) with
   | some vs=>kZ P (do pure (.value (← Builtin.max_ c.argTypes o.type (List.toArray vs)))) (fun v=>k md td (.v v))
   | none=>none
  | _=>none
 | _=>none
def DU (P:Program) (E:Env) (D:EE) (o:Oper) (md:MD) (td:List TD) (k:XK R):Option R:=
 match yw o&&ua o td,qz E o md td with
 | true,some none=>kW P E D o true md md td k
 | true,some (some l)=>fS D.sy l md td (fun _ md td=>kW P E D o true md md td k)
 | _,_=>none
def Bj (P:Program) (E:Env) (D:EE) (o:Oper) (st:Bool) (md0 md:MD) (td:List TD) (k:XK R):Option R:=gd (!wh E o td) (bif mJ E o then kW P E D o false md0 md td (fun md td x=>cW D.sy x md td (fun x md td=>k md td x)) else kW P E D o st md0 md td k)
def Qt (P:Program) (E:Env) (D:EE) (X:Option (List Nat)) (o:Oper) (st:Bool) (md0 md:MD) (td:List TD) (k:XK R):Option R:=match X with
 | none=>DU P E D o md td k
 | some _=>Bj P E D o st md0 md td k
def Bu (E:Env) (D:EE) (q:Bool) (g:FuncId) (xs:List TD):Bool:=(ju E q g).isNone&&xs.all xF&&(match lk D.sm g with | some S=>fZ S.rs | none=>false)
def oT (E:Env) (D:EE) (o:Oper) (td:List TD):Bool:=(kO o && !mJ E o)||(match o.op with
 | .call c=>match c.callee with
  | .value (.func g)=>Bu E D false g (c.args.toList.map (dev td))
  | _=>false
 | _=>false)
def nF (P:Program) (E:Env) (D:EE) (X:Option (List Nat)) (all:List Oper):List Oper→Bool→MD→MD→List TD→XM R→Option R
 | [],st,md0,md,td,k=>k md td
 | o::rest,st,md0,md,td,k=>
  match o.guard with
  | none=>gd (a0X X md0.own.length o td) (Qt P E D X o st md0 md td (fun md' td' x=>fV md' (fun md'=>bD (pz td' o.dst x) (fun td2=>nF P E D X all rest (st&&oT E D o td) md0 md' td2 k))))
  | some (i,b)=>match (nth all i).bind (·.dst) with
   | none=>none
   | some j=>match sk td j with
    | .v (.bool c)=>az (c==b)
      (gd (a0X X md0.own.length o td) (Qt P E D X o st md0 md (td.set j (.v (.bool b))) (fun md' td' x=>fV md' (fun md'=>bD (pz td' o.dst x) (fun td2=>nF P E D X all rest (st&&oT E D o (td.set j (.v (.bool b)))) md0 md' td2 k)))))
      (bD (pz (td.set j (.v (.bool !b))) o.dst (.v undef)) (fun td=>nF P E D X all rest st md0 md td k))
    | .v (.tuple _)=>bD (pz td o.dst (.v undef)) (fun td=>nF P E D X all rest st md0 md td k)
    | _=>none
def xK (P:Program) (E:Env) (D:EE) (all:List Oper):Ord→MD→List TD→XM R→Option R
 | .done,m,t,k=>k m t
 | .last i r,m,t,k=>nF P E D none all (bh all [i]) true m m t (fun m t=>xK P E D all r m t k)
 | _,_,_,_=>none
def mX [Same R] (P:Program) (E:Env) (D:EE) (X:Option (List Nat)) (all:List Oper):Nat→Ord→Bool→MD→MD→List TD→XM R→Option R
 | 0,_,_,_,_,_,_=>none
 | f+1,l,st,m0,m,t,k=>match l.spine.2 with
  | .done=>nF P E D X all (bh all l.spine.1) st m0 m t k
  | .last i r=>nF P E D X all (bh all l.spine.1) st m0 m t (fun m t=>xK P { E with quiet:=false } D all (.last i r) m t k)
  | .fork i r j s=>nF P E D X all (bh all l.spine.1) st m0 m t (fun m t=>both (mX P E D X all f (.one i r) (st&&(bh all l.spine.1).all KJ) m0 m t k) (mX P E D X all f (.one j s) (st&&(bh all l.spine.1).all KJ) m0 m t k))
  | .fork3 i r j s h u=>nF P E D X all (bh all l.spine.1) st m0 m t (fun m t=>both (mX P E D X all f (.one i r) (st&&(bh all l.spine.1).all KJ) m0 m t k) (both (mX P E D X all f (.one j s) (st&&(bh all l.spine.1).all KJ) m0 m t k) (mX P E D X all f (.one h u) (st&&(bh all l.spine.1).all KJ) m0 m t k)))
  | .now i r=>nF P E D X all (bh all l.spine.1) st m0 m t (fun m t=>nF P E D (some []) all (bh all [i]) true m m t (fun m t=>mX P E D X all f r false m0 m t k))
  | .one _ _=>none
end Go.Proofs.YtdbjakibneeeiaaGreatDoor.Sx
namespace Go.Proofs.YtdbjakibneeeiaaGreatDoor.Sx
open Go.RowKit
def ME {α:Type} (f:α→α→Bool):List α→List α→Bool
 | [],[]=>true
 | x::l,y::k=>f x y&&ME f l k
 | _,_=>false
def Gj {α:Type} {f:α→α→Bool} (hf:∀x y,f x y=true→x=y):∀{l k:List α},ME f l k=true→l=k
 | [],[],_=>rfl
 | x::l,y::k,h=>by
  simp only [ME,Bool.and_eq_true] at h
  rw [hf _ _ h.1,Gj hf h.2]
 | [],_::_,h=>by cases h
 | _::_,[],h=>by cases h
def QC:Value→Value→Bool
 | .bool a,.bool b=>a==b
 | .int k a,.int l b=>decide (k=l)&&a==b
 | .float k a,.float l b=>decide (k=l)&&a==b
 | .complex k a b,.complex l c d=>decide (k=l)&&a==c&&b==d
 | .nilFunc,.nilFunc=>true
 | .nilIface,.nilIface=>true
 | .slice none a b,.slice none c d=>a==c&&b==d
 | .func (.func a) x y,.func (.func b) u v=>a==b&&(x.size==0&&(y.size==0&&(u.size==0&&v.size==0)))
 | _,_=>false
def G9 {a b:Value} (h:QC a b=true):a=b:=by
 unfold QC at h
 split at h <;> first
  | rfl
  | (cases h;done)
  | (simp only [Bool.and_eq_true,beq_iff_eq] at h
     obtain ⟨h1,h2,h3,h4,h5⟩:=h
     rw [h1,Array.eq_empty_of_size_eq_zero h2,Array.eq_empty_of_size_eq_zero h3,Array.eq_empty_of_size_eq_zero h4,Array.eq_empty_of_size_eq_zero h5])
  | (simp only [Bool.and_eq_true,decide_eq_true_eq,beq_iff_eq] at h;simp [h])
def Ql (a b:ByteArray):Bool:=decide (a=b)
def FO {a b:ByteArray} (h:Ql a b=true):a=b:=of_decide_eq_true h
mutual
def Den.lM:(s:Sh)→Den s→Den s→Bool
 | .int,x,y=>(show Int from x)==y
 | .bool,x,y=>(show Bool from x)==y
 | .str,x,y=>Ql x y
 | .num _,x,y=>QC x y
 | .flat l,x,y=>af.lM l x y
 | .row e,x,y=>ME (Den.lM e) x y
termination_by structural s=>s
def af.lM:(l:List Sh)→af l→af l→Bool
 | [],_,_=>true
 | s::l,x,y=>Den.lM s x.1 y.1&&af.lM l x.2 y.2
termination_by structural l=>l
end
mutual
def Den.j9:∀{s:Sh} {x y:Den s},Den.lM s x y=true→x=y
 | .int,x,y,h=>eq_of_beq (α:=Int) h
 | .bool,x,y,h=>eq_of_beq (α:=Bool) h
 | .str,x,y,h=>FO h
 | .num _,x,y,h=>G9 h
 | .flat l,x,y,h=>af.j9 (l:=l) h
 | .row e,x,y,h=>Gj (f:=Den.lM e) (fun _ _=>Den.j9 (s:=e)) h
def af.j9:∀{l:List Sh} {x y:af l},af.lM l x y=true→x=y
 | [],_,_,_=>rfl
 | s::l,(a,x),(b,y),h=>by
  have h:(Den.lM s a b&&af.lM l x y)=true:=h
  rw [Bool.and_eq_true] at h
  rw [Den.j9 h.1,af.j9 h.2]
end
instance NV (l:List Sh):Same (af l):=⟨af.lM l,af.j9⟩
def Jq {α β:Type} [Same α] [Same β]:α ⊕ β→α ⊕ β→Bool
 | .inl a,.inl b=>Same.eq a b
 | .inr a,.inr b=>Same.eq a b
 | _,_=>false
def FP {α β:Type} [Same α] [Same β]:∀{x y:α ⊕ β},Jq x y=true→x=y
 | .inl a,.inl b,h=>congrArg _ (Same.of h)
 | .inr a,.inr b,h=>congrArg _ (Same.of h)
 | .inl _,.inr _,h=>by cases h
 | .inr _,.inl _,h=>by cases h
instance tU {α β:Type} [Same α] [Same β]:Same (α ⊕ β) where
 eq:=Jq
 of:=FP
instance Vu {α β:Type} [Same α] [Same β]:Same (α×β):=⟨fun x y=>Same.eq x.1 y.1&&Same.eq x.2 y.2,fun {x y} h=>by
  rw [Bool.and_eq_true] at h
  exact Prod.ext (Same.of h.1) (Same.of h.2)⟩
instance OB:Same Empty where
 eq:=fun x _=>(nomatch x)
 of:=fun {x} _=>(nomatch x)
def idx:List Nat→Nat→Option Nat
 | [],_=>none
 | x::l,b=>match x==b with
  | true=>some 0
  | false=>match idx l b with
   | some i=>some (i+1)
   | none=>none
def idxs (σ:List Nat):List (Nat×Nat)→Option (List (Nat×Nat))
 | []=>some []
 | (b,o)::l=>match idx σ b,idxs σ l with
  | some b',some l'=>some ((b',o)::l')
  | _,_=>none
def TD.fk (σ τ:List Nat) (x:TD):TD:=match x with
 | .p b o=>match idx σ b with
  | some b'=>.p b' o
  | none=>.any
 | .fn f c=>match idxs σ c with
  | some c'=>.fn f c'
  | none=>.any
 | .s b n=>match idx σ b with
  | some b'=>.s b' n
  | none=>.any
 | .r i=>match idx τ i with
  | some i'=>.r i'
  | none=>.any
 | .q i z j o=>match idx τ i with
  | some i'=>.q i' z j o
  | none=>.any
 | x=>x
def MD.fk (m:MD) (σ τ:List Nat):MD:=⟨σ.map fun b=>((m.own[b]?).join).map fun q=>(q.1.map (TD.fk σ τ),q.2),τ.map fun i=>(m.rows[i]?).join⟩
inductive HI where
 | any
 | p (b o:Nat)
 | r (i:Nat)
 | fn (f:FuncId) (c:List (Nat×Nat))
 | d (s:Sh)
def oV:List HI→List Sh
 | []=>[]
 | .d s::l=>s::oV l
 | _::l=>oV l
def an:Nat→List HI→List HI
 | 0,l=>l
 | n+1,l=>.any::an n l
def pK:(l:List HI)→af (oV l)→List TD
 | [],_=>[]
 | .any::l,x=>.any::pK l x
 | .p b o::l,x=>.p b o::pK l x
 | .r i::l,x=>.r i::pK l x
 | .fn f c::l,x=>.fn f c::pK l x
 | .d s::l,x=>Bc s x.1::pK l x.2
def Jl:(h:HI)→(x:TD)→(l:List HI)→Option (af (oV l))→Option (af (oV (h::l)))
 | .any,_,_,r=>r
 | .p b o,x,l,r=>match x with
  | .p b' o'=>gd (b==b'&&o==o') r
  | _=>none
 | .r i,x,l,r=>match x with
  | .r i'=>gd (i==i') r
  | _=>none
 | .fn f c,x,l,r=>match x with
  | .fn f' c'=>gd (f==f'&&decide (c=c')) r
  | _=>none
 | .d s,x,l,r=>match fF s x with
  | some y=>match r with
   | some z=>some (y,z)
   | none=>none
  | none=>none
def qK:(l:List HI)→List TD→Option (af (oV l))
 | [],t=>match t with
  | []=>some ()
  | _::_=>none
 | h::l,t=>match t with
  | []=>none
  | x::t=>Jl h x l (qK l t)
def r7:(l:List HI)→af (oV l)→List TD
 | [],_=>[]
 | .any::l,x=>.any::r7 l x
 | .p b o::l,x=>.p b o::r7 l x
 | .r i::l,x=>.r i::r7 l x
 | .fn f c::l,x=>.fn f c::r7 l x
 | .d s::l,x=>eR s x.1++r7 l x.2
def iu:(l:List HI)→List TD→Option (af (oV l))
 | [],t=>match t with
  | []=>some ()
  | _::_=>none
 | .any::l,t=>none
 | .p b o::l,t=>match t with
  | .p b' o'::t=>gd (b==b'&&o==o') (iu l t)
  | _=>none
 | .r i::l,t=>match t with
  | .r i'::t=>gd (i==i') (iu l t)
  | _=>none
 | .fn f c::l,t=>match t with
  | .fn f' c'::t=>gd (f==f'&&decide (c=c')) (iu l t)
  | _=>none
 | .d s::l,t=>match fM s t with
  | some (y,t)=>match iu l t with
   | some z=>some (y,z)
   | none=>none
  | none=>none
def Jz:List (Option (List HI×TypeId))→List (List Sh)
 | []=>[]
 | some (s,_)::l=>oV s::Jz l
 | none::l=>Jz l
def bq:List (List Sh)→Type
 | []=>Unit
 | l::r=>af l×bq r
def bq.lM:(l:List (List Sh))→bq l→bq l→Bool
 | [],_,_=>true
 | l::r,x,y=>af.lM l x.1 y.1&&bq.lM r x.2 y.2
def bq.j9:∀{l:List (List Sh)} {x y:bq l},bq.lM l x y=true→x=y
 | [],_,_,_=>rfl
 | l::r,(a,x),(b,y),h=>by
  have h:(af.lM l a b&&bq.lM r x y)=true:=h
  rw [Bool.and_eq_true] at h
  rw [af.j9 h.1,bq.j9 h.2]
instance Rt (l:List (List Sh)):Same (bq l):=⟨bq.lM l,bq.j9⟩
def jl:(l:List (Option (List HI×TypeId)))→bq (Jz l)→List (Option (List TD×TypeId))
 | [],_=>[]
 | some (s,ty)::l,x=>some (r7 s x.1,ty)::jl l x.2
 | none::l,x=>none::jl l x
def mU:(l:List (Option (List HI×TypeId)))→List (Option (List TD×TypeId))→Option (bq (Jz l))
 | [],_=>some ()
 | none::l,m=>match m with
  | []=>none
  | _::m=>mU l m
 | some (s,ty)::l,m=>match m with
  | some (cs,ty')::m=>gd (ty==ty') (match iu s cs with
   | some x=>match mU l m with
    | some z=>some (x,z)
    | none=>none
   | none=>none)
  | _=>none
def Mv:List (Option (TypeId×Nat×Sh))→List Sh
 | []=>[]
 | some (_,_,s)::l=>.row s::Mv l
 | none::l=>Mv l
def kK:(l:List (Option (TypeId×Nat×Sh)))→af (Mv l)→List (Option kP)
 | [],_=>[]
 | some (e,size,s)::l,x=>some ⟨e,size,s,x.1⟩::kK l x.2
 | none::l,x=>none::kK l x
def qB:(l:List (Option (TypeId×Nat×Sh)))→List (Option kP)→Option (af (Mv l))
 | [],_=>some ()
 | none::l,m=>match m with
  | []=>none
  | _::m=>qB l m
 | some (e,size,s)::l,m=>match m with
  | some r::m=>gd (e==r.e&&size==r.size) (match Sh.jA r.s s r.l with
   | some L=>match qB l m with
    | some z=>some (L,z)
    | none=>none
   | none=>none)
  | _=>none
structure Lay where
 slots:List HI
 own:List (Option (List HI×TypeId)):=[]
 rows:List (Option (TypeId×Nat×Sh)):=[]
def fN (nb nr:Nat):List HI→Bool
 | []=>true
 | .p b _::l=>Nat.blt b nb&&fN nb nr l
 | .r i::l=>Nat.blt i nr&&fN nb nr l
 | .fn _ c::l=>(c.all fun q=>Nat.blt q.1 nb)&&fN nb nr l
 | _::l=>fN nb nr l
def qq (nb nr:Nat):List (Option (List HI×TypeId))→Bool
 | []=>true
 | some (l,_)::r=>fN nb nr l&&qq nb nr r
 | none::r=>qq nb nr r
abbrev Lay.T (h:Lay):Type:=af (oV h.slots)×bq (Jz h.own)×af (Mv h.rows)
def lay (h:Lay) (x:h.T):MD×List TD:=(⟨jl h.own x.2.1,kK h.rows x.2.2⟩,pK h.slots x.1)
def M0 (h:Lay) (m:MD) (t:List TD):Option h.T:=gd (fN h.own.length h.rows.length h.slots&&qq h.own.length h.rows.length h.own) (match qK h.slots t with
 | some a=>match mU h.own m.own with
  | some b=>match qB h.rows m.rows with
   | some c=>some (a,b,c)
   | none=>none
  | none=>none
 | none=>none)
abbrev CT:=List (Nat×Nat)×List (Nat×Nat)
def Ia:List HI→List TD→CT→CT
 | .p b _::l,.p b' _::t,n=>Ia l t ((b,b')::n.1,n.2)
 | .r i::l,.r i'::t,n=>Ia l t (n.1,(i,i')::n.2)
 | _::l,_::t,n=>Ia l t n
 | _,_,n=>n
def G4:List HI→List TD→CT→CT
 | [],_,n=>n
 | .d s::l,t,n=>G4 l (t.drop s.size) n
 | .p b _::l,t,n=>match t with
  | .p b' _::t=>G4 l t ((b,b')::n.1,n.2)
  | _=>n
 | .r i::l,t,n=>match t with
  | .r i'::t=>G4 l t (n.1,(i,i')::n.2)
  | _=>n
 | _::l,t,n=>G4 l (t.drop 1) n
def Gv (m:MD):Nat→List (Option (List HI×TypeId))→CT→CT
 | _,[],n=>n
 | b,some (l,_)::r,n=>match lk n.1 b with
  | some b'=>match (m.own[b']?).join with
   | some (cs,_)=>Gv m (b+1) r (G4 l cs n)
   | none=>Gv m (b+1) r n
  | none=>Gv m (b+1) r n
 | b,none::r,n=>Gv m (b+1) r n
def Vn (n:List (Nat×Nat)):Nat→Nat→Option (List Nat)
 | _,0=>some []
 | b,k+1=>match lk n b,Vn n (b+1) k with
  | some b',some l=>some (b'::l)
  | _,_=>none
def rP:List Nat→Bool
 | []=>true
 | x::l=>!l.contains x&&rP l
def qH (h:Lay) (m:MD) (t:List TD):Option h.T:=
 let n:=Gv m 0 h.own (Ia h.slots t ([],[]))
 match Vn n.1 0 h.own.length,Vn n.2 0 h.rows.length with
 | some σ,some τ=>gd (rP σ&&rP τ&&σ.all (fun b=>Nat.blt b m.own.length)&&τ.all (fun i=>Nat.blt i m.rows.length)) (M0 h (m.fk σ τ) (t.map (TD.fk σ τ)))
 | _,_=>none
def Bl:List (Exit×Lay)→Type
 | []=>Empty
 | (_,h)::l=>h.T ⊕ Bl l
@[reducible] def JR:(l:List (Exit×Lay))→Same (Bl l)
 | []=>OB
 | (_,h)::l=>@tU _ _ inferInstance (JR l)
def KQ:Exit→Exit→Bool
 | .exit i,.exit j=>i==j
 | .goto i,.goto j=>i==j
 | .ret,.ret=>true
 | _,_=>false
def Ij {a b:Exit} (h:KQ a b=true):a=b:=by
 unfold KQ at h
 split at h <;> first | rfl | (rw [eq_of_beq h]) | cases h
def tW:(l:List (Exit×Lay))→Exit→MD→List TD→Option (Bl l)
 | [],_,_,_=>none
 | (e,h)::l,e',m,t=>match KQ e e' with
  | true=>match qH h m t with
   | some x=>some (.inl x)
   | none=>none
  | false=>match tW l e' m t with
   | some y=>some (.inr y)
   | none=>none
abbrev XE (R:Type):=Exit→MD→List TD→Option R
def xs {α β R:Type} (y:α ⊕ β) (f:α→Option R) (g:β→Option R):Option R:=match y with | .inl x=>f x | .inr y=>g y
def xe {R:Type} (y:Empty):Option R:=Empty.elim y
def vH {R:Type}:(l:List (Exit×Lay))→Bl l→XE R→Option R
 | [],y,_=>xe y
 | (e,h)::l,y,k=>xs y (fun x=>k e (lay h x).1 (lay h x).2) (fun y=>vH l y k)
def b6 {S R:Type} (step:S→Option (S ⊕ R)) (n:Nat):S→Option R:=
 Nat.rec (motive:=fun _=>S→Option R) (fun _=>none) (fun _ ih x=>match step x with
  | some (.inl y)=>ih y
  | some (.inr r)=>some r
  | none=>none) n
def bn:Nat:=10000000000000000000
inductive EG where
 | slot (d:Nat) (e:TypeId) (s:Sh)
 | cell (i d:Nat) (e:TypeId) (s:Sh)
 | share (i:Nat)
structure LH where
 nil:List EG:=[]
 label:Nat:=0
 head:Lay
 exits:List (Exit×Lay)
structure FH where
 sch:List (Nat×(Ord×List Nat)):=[]
 loops:List (Nat×LH):=[]
 pre:List (Nat×List Nat):=[]
 joins:List (Nat×Lay):=[]
def wQ:Code→Option Nat
 | .region id _ _=>some id
 | .seq a b=>match wQ a with
  | some i=>some i
  | none=>wQ b
 | .cond _ x y=>match wQ x with
  | some i=>some i
  | none=>wQ y
 | .block _ b=>wQ b
 | .loop b=>wQ b
 | .scope b=>wQ b
 | _=>none
def wL {R:Type} (sy:List (TypeId×Sh)):List EG→MD→List TD→XM R→Option R
 | [],m,t,k=>k m t
 | .slot d e s::Z,m,t,k=>match t[d]? with
  | some (.v (.slice none 0 0))=>wL sy Z { m with rows:=m.rows++[some ⟨e,s.size,s,[]⟩] } (t.set d (.r m.rows.length)) k
  | _=>none
 | .cell i d e s::Z,m,t,k=>match t[i]? with
  | some (.p b _)=>match (m.own[b]?).join with
   | some (cs,ty)=>match cs[d]? with
    | some (.v (.slice none 0 0))=>wL sy Z { m with own:=m.own.set b (some (cs.set d (.r m.rows.length),ty)),rows:=m.rows++[some ⟨e,s.size,s,[]⟩] } t k
    | _=>none
   | none=>none
  | _=>none
 | .share i::Z,m,t,k=>match t[i]? with
  | some x=>cW sy x m t (fun _ m t=>wL sy Z m t k)
  | none=>none
def Am (h:LH):XE (h.head.T ⊕ Bl h.exits):=fun e m t=>match e with
 | .normal=>match qH h.head m t with
  | some x=>some (.inl x)
  | none=>none
 | e=>match tW h.exits e m t with
  | some y=>some (.inr y)
  | none=>none
def lq (h:LH):XE (h.head.T ⊕ Bl h.exits):=fun e m t=>match e with
 | .goto l=>match l==h.label with
  | true=>match qH h.head m t with
   | some x=>some (.inl x)
   | none=>none
  | false=>none
 | e=>match tW h.exits e m t with
  | some y=>some (.inr y)
  | none=>none
abbrev XG:=Code→(R:Type)→Same R→MD→List TD→XE R→Option R
def rG (P:Program) (E:Env) (D:EE) (H:FH) (id:Nat) (os:Array Oper) (draw:Bool) (R:Type) (S:Same R) (m:MD) (t:List TD) (k:XM R):Option R:=
 match draw with
 | false=>nF P E D none os.toList os.toList true m m t k
 | true=>match E.lead with
  | 0=>fS D.sy ((E.Pp id).map .r) m t fun _ m t=>match lk H.sch id with
   | some (l,X)=>gd (tE m X) (mX P { E with quiet:=true } D (some X) os.toList (l.eB+1) l true (m.jF X) m t k)
   | none=>none
  | _=>none
def dP (P:Program) (E:Env) (D:EE) (H:FH) (G:XG):XG
 | .skip,R,S,m,t,k=>k .normal m t
 | .region id os draw,R,S,m,t,k=>match lk H.joins id with
  | none=>rG P E D H id os draw R S m t (k .normal)
  | some h=>match rG P E D H id os draw h.T inferInstance m t (fun m t=>qH h m t) with
   | none=>none
   | some x=>k .normal (lay h x).1 (lay h x).2
 | .seq a b,R,S,m,t,k=>dP P E D H G a R S m t (fun e m t=>match e with
  | .normal=>dP P E D H G b R S m t k
  | e=>k e m t)
 | .cond c x y,R,S,m,t,k=>match dev t c with
  | .v (.bool b)=>az b (dP P E D H G x R S m (Ek t c true) k) (dP P E D H G y R S m (Ek t c false) k)
  | _=>none
 | .block id b,R,S,m,t,k=>dP P E D H G b R S m t (fun e m t=>match e with
  | .exit i=>match i==id with
   | true=>k .normal m t
   | false=>k (.exit i) m t
  | e=>k e m t)
 | .loop b,R,S,m,t,k=>match wQ b with
  | none=>none
  | some i=>match lk H.loops i with
   | none=>none
   | some h=>wL D.sy h.nil m t fun m t=>match qH h.head m t with
    | none=>none
    | some x=>match b6 (fun x=>dP P E D H G b (h.head.T ⊕ Bl h.exits) (@tU _ _ inferInstance (JR h.exits)) (lay h.head x).1 (lay h.head x).2 (Am h)) bn x with
     | none=>none
     | some y=>vH h.exits y k
 | .scope b,R,S,m,t,k=>match wQ b with
  | none=>none
  | some i=>match lk H.loops i with
   | none=>none
   | some h=>match findLabel b h.label with
    | none=>none
    | some rest=>gd (aR H.sch rest) (match dP P E D H G b (h.head.T ⊕ Bl h.exits) (@tU _ _ inferInstance (JR h.exits)) m t (lq h) with
     | none=>none
     | some (.inr y)=>vH h.exits y k
     | some (.inl x)=>match b6 (fun x=>G rest (h.head.T ⊕ Bl h.exits) (@tU _ _ inferInstance (JR h.exits)) (lay h.head x).1 (lay h.head x).2 (lq h)) bn x with
      | none=>none
      | some y=>vH h.exits y k)
 | .exit id,R,S,m,t,k=>k (.exit id) m t
 | .label _,R,S,m,t,k=>k .normal m t
 | .goto l,R,S,m,t,k=>k (.goto l) m t
 | .ret,R,S,m,t,k=>k .ret m t
 | _,R,S,m,t,k=>none
def IP (P:Program) (E:Env) (D:EE) (H:FH):XG:=dP P E D H (dP P E D H fun _ _ _ _ _ _=>none)
def gA {R:Type} (E:Env) (sy:List (TypeId×Sh)):List ResultVar→MD→List TD→(List TD→Option R)→Option R
 | [],m,t,k=>k []
 | .tmp i::l,m,t,k=>cW sy (sk t i) m t (fun x m t=>gd (r8 x) (gA E sy l m t (fun vs=>k (x::vs))))
 | .cell i ty::l,m,t,k=>match sk t i with
  | .p b off=>match (m.own[b]?).join,lk E.agg ty with
   | some (cs,_),some (some n)=>fS sy (jB cs off n) m t (fun xs m t=>gd (xs.all r8&&(xs.length==n)) (gA E sy l m t (fun vs=>k (.g xs::vs))))
   | some (cs,_),some none=>match cs[off]? with
    | some x=>cW sy x m t (fun x m t=>gd (r8 x) (gA E sy l m t (fun vs=>k (x::vs))))
    | none=>none
   | _,_=>none
  | _=>none
def TJ {R:Type} (E:Env) (D:EE) (rs:List ResultVar) (k:List TD→Option R):XE R:=fun e m t=>match e with
 | .normal=>gA E D.sy rs m t k
 | .ret=>gA E D.sy rs m t k
 | _=>none
def Tr (P:Program) (E:Env) (D:EE) (H:FH) (f:FuncId) (ps rs:List Sh) (x:af ps):Option (af rs):=
 match P.funcs[f]? with
 | none=>none
 | some fn=>match fn.body with
  | none=>none
  | some c=>IP P { E with pre:=H.pre } D H c (af rs) (NV rs) ⟨[],[]⟩ (Ci ps x++F5 (fn.ntmps - ps.length)) (TJ { E with pre:=H.pre } D fn.results.toList (fun us=>iE rs us))
end Go.Proofs.YtdbjakibneeeiaaGreatDoor.Sx
namespace Go.Proofs.YtdbjakibneeeiaaGreatDoor.Sx
open Go.RowKit
variable {R : Type} {r : R} {E : Env} {b : List Fact} {P : Program} {D : EE}
def I5 {st:Bool} {ty:TypeId} {a:TD} {md0 md:MD} {td:List TD} {ke:XK R} {kd:DK} (h:Fq E st ty a md0 md td ke=some r) (K:∀md td x,ke md td x=some r→kd md td x):yU { E with base:=b } st ty a md0 md td kd:=by
 unfold Fq at h
 unfold yU
 cases h1:lk E.agg ty with
 | none=>rw [h1] at h;cases h
 | some ag=>
  rw [h1] at h
  simp only at h
  split at h
  ·split at h
   ·rename_i cs x e1
    split at h
    ·rename_i y e2
     simp only [e1,e2]
     exact K _ _ _ h
    ·cases h
   ·cases h
  ·split at h
   ·rename_i q e1
    split at h
    ·rename_i y e2
     simp only [aC] at h
     simp only [e1,e2,h.1,cond_true]
     exact ⟨trivial,of_decide_eq_true h.2.1,K _ _ _ h.2.2⟩
    ·cases h
   ·cases h
  ·split at h
   ·rename_i y e2
    simp only [aC] at h
    simp only [e2,h.1,cond_true]
    exact ⟨trivial,of_decide_eq_true h.2.1,K _ _ _ h.2.2⟩
   ·cases h
  ·cases h
def pM {sy:List (TypeId×Sh)} {x:TD} {md:MD} {td:List TD} {ke:TD→MD→List TD→Option R} {kd:TD→MD→List TD→Prop} (h:me sy x md td ke=some r) (K:∀x md td,ke x md td=some r→kd x md td):gz sy x md td kd:=by
 cases x with
 | any=>cases h
 | r i=>
  unfold me at h
  unfold gz
  dsimp only at h ⊢
  split at h
  ·rename_i q e1
   simp only [e1]
   exact K _ _ _ h
  ·cases h
 | s b n=>
  unfold me at h
  unfold gz
  dsimp only at h ⊢
  split at h
  ·rename_i cs ty e1
   split at h
   ·rename_i s e2
    split at h
    ·rename_i L e3
     simp only [aC] at h
     simp only [e1,e2,e3,h.1,cond_true]
     exact K _ _ _ h.2
    ·cases h
   ·cases h
  ·cases h
 | _=>exact K _ _ _ h
def tq {sy:List (TypeId×Sh)}:∀{l:List TD} {md:MD} {td:List TD} {ke:XM R} {kd:DM},sN sy l md td ke=some r→(∀md td,ke md td=some r→kd md td)→nY sy l md td kd
 | [],md,td,ke,kd,h,K=>K _ _ h
 | x::l,md,td,ke,kd,h,K=>pM h fun _ md td h=>tq (l:=l) h K
def ff {sy:List (TypeId×Sh)} {x:TD} {md:MD} {td:List TD} {ke:TD→MD→List TD→Option R} {kd:TD→MD→List TD→Prop} (h:cW sy x md td ke=some r) (K:∀x md td,ke x md td=some r→kd x md td):cu sy x md td kd:=by
 cases x with
 | s b n=>
  unfold cW at h
  unfold cu
  dsimp only at h ⊢
  split at h
  ·rename_i cs ty e1
   simp only [e1]
   exact tq h fun md td h=>pM h K
  ·cases h
 | _=>
  unfold cW at h
  unfold cu
  dsimp only at h ⊢
  exact pM h K
def eX {sy:List (TypeId×Sh)}:∀{l:List TD} {md:MD} {td:List TD} {ke:List TD→MD→List TD→Option R} {kd:List TD→MD→List TD→Prop},fS sy l md td ke=some r→(∀l md td,ke l md td=some r→kd l md td)→eY sy l md td kd
 | [],md,td,ke,kd,h,K=>K _ _ _ h
 | x::l,md,td,ke,kd,h,K=>ff h fun y md td h=>eX (l:=l) h fun l md td h=>K _ _ _ h
def Ee {g:FuncId}:lk D.gM.sm g=(lk D.sm g).map bI.fG:=rJ _ _ _
def Kj {g:FuncId}:lk D.gM.fr g=(lk D.fr g).map Gz.fG:=rJ _ _ _
def HS {g:FuncId} {xs:List TD} {md:MD} {td:List TD} {ke:XK R} {kd:DK} (h:Ez D g xs md td ke=some r) (K:∀md td x,ke md td x=some r→kd md td x):wA D.gM g xs md td kd:=by
 unfold Ez at h
 unfold wA
 rw [Ee]
 split at h
 ·rename_i S e1
  rw [e1]
  simp only [Option.map_some]
  split at h
  ·rename_i x e2
   have e2:iE S.fG.ps xs=some x:=e2
   split at h
   ·rename_i y e3
    rw [e2]
    simp only
    refine ⟨by show (S.F x).isSome=true;rw [e3];rfl,fun _=>?_⟩
    have:S.fG.F x=y:=by show (S.F x).getD _=y;rw [e3];rfl
    rw [this]
    exact K _ _ _ h
   ·cases h
  ·cases h
 ·cases h
def Ig {g:FuncId} {e:TypeId} {size:Nat} {xs:List TD} {md:MD} {td:List TD} {ke:XK R} {kd:DK} (h:Eu D g e size xs md td ke=some r) (K:∀md td x,ke md td x=some r→kd md td x):Aa D.gM g e size xs md td kd:=by
 unfold Eu at h
 unfold Aa
 rw [Kj]
 split at h
 ·rename_i S e1
  rw [e1]
  simp only [Option.map_some]
  split at h
  ·rename_i x e2
   have e2:iE S.fG.ps xs=some x:=e2
   rw [aC] at h
   obtain ⟨h1,h⟩:=h
   split at h
   ·rename_i y e3
    rw [e2]
    simp only
    rw [show (e==S.fG.e&&size==S.fG.size&&size==S.fG.s.size)=true from h1]
    simp only [cond_true]
    refine ⟨by show (S.F x).isSome=true;rw [e3];rfl,?_⟩
    have:S.fG.F x=y:=by show (S.F x).getD _=y;rw [e3];rfl
    rw [this]
    exact K _ _ _ h
   ·cases h
  ·cases h
 ·cases h
def zE {q:Bool} {g:FuncId} {args:List TD} {md:MD} {td:List TD} {ke:XK R} {kd:DK} (h:xP E D q g args md td ke=some r) (K:∀md td x,ke md td x=some r→kd md td x):jO { E with base:=b } D.gM q g args md td kd:=by
 unfold xP at h
 unfold jO
 split at h
 ·rename_i e1
  rw [show ju { E with base:=b } q g=_ from e1];dsimp only
  exact eX h fun l md td h=>HS h K
 ·rename_i e1
  rw [show ju { E with base:=b } q g=_ from e1];dsimp only
  exact eX h fun l md td h=>Ig h K
 ·cases h
def GJ {tw:Bool} {op:BinOp} {x y:Int} {ke:TD→Option R} {kd:TD→Prop} (h:Fy tw op x y ke=some r) (K:∀x,ke x=some r→kd x):zJ tw op x y kd:=by
 cases op <;> simp only [Fy,zJ] at h ⊢ <;> first
  | (cases h;done)
  | exact K _ h
  | (cases tw
     ·simp only [aC,kr] at h
      exact ⟨h.1,K _ h.2⟩
     ·exact K _ h)
def FM {ty:TypeId} {a x:TD} {md:MD} {td:List TD} {ke:XK R} {kd:DK} (h:x4 E D ty a x md td ke=some r) (K:∀md td x,ke md td x=some r→kd md td x):qm { E with base:=b } D.gM ty a x md td kd:=by
 cases a with
 | p c off=>
  have go:∀x:TD,cW D.sy x md td (fun x md td=>match (md.own[c]?).join with
   | some (cs,e)=>match fC x,lk E.agg ty with
    | some xs,some n=>gd (xs.length==n.getD 1&&Nat.ble (off+xs.length) cs.length&&dH xs) (ke (md.cC c (fI cs off xs) e) td (.v undef))
    | _,_=>none
   | none=>none)=some r→cu D.gM.sy x md td (fun x md td=>match (md.own[c]?).join with
   | some (cs,e)=>match fC x,lk E.agg ty with
    | some xs,some n=>bif xs.length==n.getD 1&&Nat.ble (off+xs.length) cs.length&&dH xs then kd (md.cC c (fI cs off xs) e) td (.v undef) else False
    | _,_=>False
   | none=>False):=fun x h=>by
   refine ff h fun x md td h=>?_
   split at h
   ·rename_i e1
    split at h
    ·rename_i e2 e3
     simp only [aC] at h
     simp only [e1,e2,e3,h.1,cond_true]
     exact K _ _ _ h.2
    ·cases h
   ·cases h
  unfold x4 at h
  unfold qm
  cases x with
  | r i=>
   dsimp only at h ⊢
   split at h
   ·rename_i e1 e2
    simp only [aC] at h
    simp only [e1,e2,h.1,cond_true]
    exact K _ _ _ h.2
   ·cases h
  | any=>cases h
  | _=>exact go _ h
 | q i sz j off=>
  unfold x4 at h
  unfold qm
  dsimp only at h ⊢
  split at h
  ·rename_i e1 e2 e3
   split at h
   ·rename_i e4
    simp only [aC] at h
    simp only [e1,e2,e3,e4,h.1,cond_true]
    exact ⟨of_decide_eq_true h.2.1,K _ _ _ h.2.2⟩
   ·cases h
  ·cases h
 | _=>cases h
def wW {ty:TypeId} {x i:TD} {md:MD} {td:List TD} {ke:XK R} {kd:DK} (h:nu E ty x i md td ke=some r) (K:∀md td x,ke md td x=some r→kd md td x):gX { E with base:=b } ty x i md td kd:=by
 unfold nu at h
 unfold gX
 split at h
 ·rename_i e1
  simp only [e1]
  split at h
  ·simp only [aC,bC] at h
   simp only [h.1,cond_true]
   exact ⟨h.2.1,K _ _ _ h.2.2⟩
  ·split at h
   ·rename_i e2
    simp only [aC,bC] at h
    simp only [e2,h.1,cond_true]
    exact ⟨h.2.1,K _ _ _ h.2.2⟩
   ·cases h
  ·cases h
 ·rename_i e1
  simp only [e1]
  split at h
  ·split at h
   ·rename_i e2
    simp only [aC,bC] at h
    simp only [e2]
    exact ⟨h.1,K _ _ _ h.2⟩
   ·cases h
  ·cases h
def CD {e:TypeId} {size bytes:Nat} {i:Nat} {q:kP} {y:TD} {md:MD} {td:List TD} {ke:XK R} {kd:DK} (h:Cm D e size bytes i q y md td ke=some r) (K:∀md td x,ke md td x=some r→kd md td x):qI D.gM e size bytes i q y md td kd:=by
 unfold Cm at h
 unfold qI
 split at h
 ·rename_i L e1
  rw [aC,Bool.and_eq_true] at h
  split
  ·rename_i L' e2
   cases Option.some.inj (e1.symm.trans e2)
   exact ⟨⟨Nat.le_of_ble_eq_true h.1.1,Nat.le_of_ble_eq_true h.1.2⟩,K _ _ _ h.2⟩
  ·rename_i e2
   cases e1.symm.trans e2
 ·cases h
def Iq {e:TypeId} {size bytes:Nat} {x y:TD} {md:MD} {td:List TD} {ke:XK R} {kd:DK} (h:EY D e size bytes x y md td ke=some r) (K:∀md td x,ke md td x=some r→kd md td x):zX D.gM e size bytes x y md td kd:=by
 unfold EY at h
 unfold zX
 split at h
 ·split at h
  ·rename_i e1
   rw [aC] at h
   simp only [e1,h.1,cond_true]
   exact CD h.2 K
  ·cases h
 ·split at h
  ·rename_i e1
   rw [aC] at h
   simp only [show lk D.gM.sy e=_ from e1,h.1,cond_true]
   exact CD h.2 K
  ·cases h
 ·cases h
end Go.Proofs.YtdbjakibneeeiaaGreatDoor.Sx
namespace Go.Proofs.YtdbjakibneeeiaaGreatDoor.Sx
open Go.RowKit
variable {R : Type} {r : R} {E : Env} {b : List Fact} {P : Program} {D : EE}
def ou {o:Oper} {st:Bool} {md0 md:MD} {td:List TD} {ke:XK R} {kd:DK} (h:kW P E D o st md0 md td ke=some r) (K:∀md td x,ke md td x=some r→kd md td x):dB P { E with base:=b } D.gM o st md0 md td kd:=by
 unfold kW at h
 unfold dB
 split at h
 ·rename_i e0;simp only [e0];exact K _ _ _ h
 ·rename_i e0;simp only [e0];exact K _ _ _ h
 ·rename_i e0;simp only [e0]
  split at h
  ·rename_i e1;simp only [e1];exact J0 h (K _ _ _) (K _ _ _)
  ·cases h
 ·rename_i e0;simp only [e0]
  split at h
  ·rename_i e1 e2;simp only [e1,show lk D.gM.sy _=_ from e2];exact K _ _ _ h
  ·cases h
 ·rename_i e0;simp only [e0]
  split at h
  ·rename_i e1;rw [aC] at h;simp only [e1,h.1,cond_true];exact K _ _ _ h.2
  ·cases h
 ·rename_i e0;simp only [e0];exact I5 h K
 ·rename_i e0;simp only [e0];exact FM h K
 ·rename_i e0;simp only [e0]
  split at h
  ·rename_i e1;simp only [e1]
   split at h
   ·rename_i e2;simp only [e2];exact K _ _ _ h
   ·rename_i e2;simp only [e2];exact K _ _ _ h
   ·rename_i e2;simp only [e2];exact K _ _ _ h
   ·cases h
  ·cases h
 ·rename_i e0;simp only [e0];exact wW h K
 ·rename_i e0;simp only [e0]
  split at h
  ·rename_i e1 e2;simp only [e1,e2];exact iL h fun v h=>K _ _ _ h
  ·cases h
 ·rename_i e0;simp only [e0]
  split at h
  ·rename_i e1 e2;simp only [e1,e2]
   split at h
   ·rename_i e3;simp only [e3,cond_true];exact GJ h fun v h=>K _ _ _ h
   ·rename_i e3;simp only [e3,cond_false];exact iL h fun v h=>K _ _ _ h
  ·rename_i hne e1 e2
   simp only [e1,e2]
   first
    | exact FG h fun v h=>K _ _ _ h
    | (split
       ·rename_i a' b' f1 f2;cases f1;cases f2;exact (hne _ _ rfl rfl).elim
       ·rename_i a' b' hne2 f1 f2;cases f1;cases f2;exact FG h fun v h=>K _ _ _ h
       ·rename_i n1 n2;exact absurd rfl (n2 _ _ rfl))
  ·cases h
 ·rename_i e0;simp only [e0]
  split at h
  ·rename_i e1;simp only [e1];exact K _ _ _ h
  ·cases h
 ·rename_i e0;simp only [e0]
  split at h
  ·rename_i e1;rw [aC,kr] at h;simp only [e1];exact ⟨h.1,K _ _ _ h.2⟩
  ·cases h
 ·rename_i src dst x e0;rw [e0]
  have fin:∀y,(match lk D.idc (src,dst),dB.dvalQ y with
    | some _,true=>ke md td y
    | _,_=>none)=some r→(match lk D.gM.idc (src,dst),dB.dvalQ y with
    | some _,true=>kd md td y
    | _,_=>False):=fun y h=>by
   split at h
   ·rename_i e2 e3
    rw [show lk D.gM.idc _=_ from e2,e3];exact K _ _ _ h
   ·cases h
  show (match dev td x with
   | .v u=>jr P (do pure (.value (← convert src dst u))) (fun v=>kd md td (.v v))
   | .any=>False
   | y=>match lk D.gM.idc (src,dst),dB.dvalQ y with
    | some _,true=>kd md td y
    | _,_=>False)
  cases hx:dev td x with
  | v u=>rw [hx] at h;exact iL h fun v h=>K _ _ _ h
  | any=>rw [hx] at h;cases h
  | _=>rw [hx] at h;exact fin _ h
 ·rename_i e0;simp only [e0]
  split at h
  ·rename_i e1;simp only [e1]
   split at h
   ·rename_i e2;simp only [e2];exact K _ _ _ h
   ·cases h
  ·rename_i e1;simp only [e1]
   split at h
   ·rename_i e2;simp only [e2];exact K _ _ _ h
   ·cases h
  ·cases h
 ·rename_i e0;simp only [e0]
  split at h
  ·rename_i e1 e2;simp only [e1,show lk D.gM.sy _=_ from e2]
   split at h
   ·rename_i e3;rw [aC] at h;simp only [e3,h.1,cond_true];exact K _ _ _ h.2
   ·cases h
  ·cases h
 ·rename_i e0;simp only [e0]
  split at h
  ·rename_i e1;simp only [e1]
   split at h
   ·rename_i e2;simp only [show lk D.gM.sy _=_ from e2]
    split at h
    ·rename_i e3
     rw [aC,Bool.not_eq_true'] at h
     simp only [e3,h.1,cond_true,cond_false];exact K _ _ _ h.2
    ·rename_i e3
     simp only [e3,cond_false]
     split at h
     ·rename_i e4 e5;rw [aC] at h;simp only [e4,e5,h.1,cond_true];exact K _ _ _ h.2
     ·cases h
   ·cases h
  ·cases h
 ·rename_i e0;simp only [e0]
  split at h
  ·rename_i e1 e2 e3;simp only [e1,e2,e3]
   split at h
   ·rename_i e4 e5
    simp only [aC,Bool.and_eq_true,decide_eq_true_eq] at h
    simp only [e4,show lk D.gM.sy _=_ from e5]
    rw [show ((_:Bool)&&_)=true from Bool.and_eq_true_iff.2 h.1]
    exact ⟨⟨h.2.1.1.1.1,h.2.1.1.1.2,h.2.1.1.2,Nat.le_of_ble_eq_true h.2.1.2⟩,K _ _ _ h.2.2⟩
   ·cases h
  ·cases h
 ·rename_i e0;simp only [e0]
  split at h
  ·rename_i e1 e2;simp only [e1,e2]
   split at h
   ·split at h
    ·rename_i e3
     simp only [aC,Bool.and_eq_true,decide_eq_true_eq] at h
     simp only [e3,h.1,cond_true]
     exact ⟨trivial,h.2.1,K _ _ _ h.2.2⟩
    ·cases h
   ·split at h
    ·rename_i e3
     simp only [aC,Bool.and_eq_true,decide_eq_true_eq] at h
     simp only [e3,h.1,cond_true]
     exact ⟨trivial,h.2.1,K _ _ _ h.2.2⟩
    ·cases h
   ·cases h
  ·rename_i n1 e2
   rw [e2]
   rcases lk E.row _ with _ | ⟨_,_,_⟩ <;> dsimp only <;> split at h <;> (try dsimp only) <;> first
    | (cases h;done)
    | (split at h
       ·rename_i e3;simp only [e3];exact iL h fun v h=>K _ _ _ h
       ·cases h)
  ·cases h
 ·rename_i e0;simp only [e0]
  split at h
  ·rename_i e1;simp only [e1]
   split at h
   ·rename_i e2;simp only [e2];exact K _ _ _ h
   ·cases h
  ·rename_i e1;simp only [e1];exact iL h fun v h=>K _ _ _ h
  ·cases h
 ·rename_i e0;simp only [e0]
  split at h
  ·rename_i e1;simp only [e1];exact zE h K
  ·rename_i f n1 e1;simp only [e1]
   split at h
   ·rename_i e2;simp only [e2];exact zE h K
   ·cases h
  ·rename_i e1;simp only [e1]
   split at h
   ·rename_i e2 e3;simp only [e2,e3]
    split at h
    ·rename_i e4;simp only [show CZ { E with base:=b } _ _ _=_ from e4];exact K _ _ _ h
    ·cases h
   ·cases h
  ·rename_i e1;simp only [e1]
   split at h
   ·rename_i e2 e3;simp only [e2,e3]
    split at h
    ·rename_i e4;rw [aC] at h;simp only [e4,h.1,cond_true];exact Iq h.2 K
    ·cases h
   ·cases h
  ·rename_i e1;simp only [e1]
   split at h
   ·rename_i e2;simp only [e2];exact iL h fun v h=>K _ _ _ h
   ·cases h
  ·rename_i e1;simp only [e1]
   split at h
   ·rename_i e2;simp only [e2];exact iL h fun v h=>K _ _ _ h
   ·cases h
  ·cases h
 ·cases h
def Hz {o:Oper} {md:MD} {td:List TD} {ke:XK R} {kd:DK} (h:DU P E D o md td ke=some r) (K:∀md td x,ke md td x=some r→kd md td x):zW P { E with base:=b } D.gM o md td kd:=by
 unfold DU at h
 unfold zW
 split at h
 ·rename_i e1 e2;simp only [e1,show qz { E with base:=b } _ _ _=_ from e2];exact ou h K
 ·rename_i e1 e2;simp only [e1,show qz { E with base:=b } _ _ _=_ from e2];exact eX h fun _ md td h=>ou h K
 ·cases h
def EZ {o:Oper} {st:Bool} {md0 md:MD} {td:List TD} {ke:XK R} {kd:DK} (h:Bj P E D o st md0 md td ke=some r) (K:∀md td x,ke md td x=some r→kd md td x):sq P { E with base:=b } D.gM o st md0 md td kd:=by
 unfold Bj at h
 unfold sq
 rw [aC,Bool.not_eq_true'] at h
 rw [show wh { E with base:=b } o td=false from h.1,show mJ { E with base:=b } o=mJ E o from rfl]
 have h2:=h.2
 cases hsm:mJ E o with
 | false=>
  rw [hsm] at h2
  have h2:kW P E D o st md0 md td ke=some r:=h2
  exact ou h2 K
 | true=>
  rw [hsm] at h2
  have h2:kW P E D o false md0 md td (fun md td x=>cW D.sy x md td (fun x md td=>ke md td x))=some r:=h2
  exact ou h2 fun md td x h=>ff h fun x md td h=>K _ _ _ h
def PC {X:Option (List Nat)} {o:Oper} {st:Bool} {md0 md:MD} {td:List TD} {ke:XK R} {kd:DK} (h:Qt P E D X o st md0 md td ke=some r) (K:∀md td x,ke md td x=some r→kd md td x):Ni P { E with base:=b } D.gM X o st md0 md td kd:=by
 cases X with
 | none=>exact Hz h K
 | some X=>exact EZ h K
def D1 {q:Bool} {g:FuncId} {xs:List TD}:pQ { E with base:=b } D.gM q g xs=Bu E D q g xs:=by
 unfold pQ Bu
 rw [Ee,show ju { E with base:=b } q g=ju E q g from rfl]
 cases lk D.sm g <;> rfl
def Bx {o:Oper} {td:List TD}:cO { E with base:=b } D.gM o td=oT E D o td:=by
 unfold cO oT
 rw [show mJ { E with base:=b } o=mJ E o from rfl]
 congr 1
 cases o.op with
 | call c=>
  obtain ⟨callee,args,tys⟩:=c
  cases callee with
  | value v=>
   cases v with
   | func g=>exact D1
   | _=>rfl
  | _=>rfl
 | _=>rfl
def iy {X:Option (List Nat)} {all:List Oper}:∀{l:List Oper} {st:Bool} {md0 md:MD} {td:List TD} {ke:XM R} {kd:DM},nF P E D X all l st md0 md td ke=some r→(∀md td,ke md td=some r→kd md td)→kI P { E with base:=b } D.gM X all l st md0 md td kd
 | [],st,md0,md,td,ke,kd,h,K=>K _ _ h
 | o::l,st,md0,md,td,ke,kd,h,K=>by
  unfold nF at h
  unfold kI
  have go:∀{td1 td0:List TD},gd (a0X X md0.own.length o td1) (Qt P E D X o st md0 md td0 (fun md' td' x=>fV md' (fun md'=>bD (pz td' o.dst x) (fun td2=>nF P E D X all l (st&&oT E D o td0) md0 md' td2 ke))))=some r→
    (bif a0X X md0.own.length o td1 then Ni P { E with base:=b } D.gM X o st md0 md td0 (fun md' td' x=>fV md' (fun md'=>bD (pz td' o.dst x) (fun td2=>kI P { E with base:=b } D.gM X all l (st&&cO { E with base:=b } D.gM o td0) md0 md' td2 kd))) else False):=fun {td1 td0} h=>by
   rw [aC] at h
   rw [h.1]
   refine PC h.2 fun md td x h=>?_
   simp only [ug,dI] at h ⊢
   rw [Bx]
   exact iy h K
  split at h
  ·rename_i e1;simp only [e1];exact go h
  ·rename_i e1;simp only [e1]
   split at h
   ·cases h
   ·rename_i e2;simp only [e2]
    split at h
    ·rename_i e3;simp only [e3]
     exact J0 h (fun h=>by have h2:=go h;exact h2) (fun h=>by simp only [dI] at h ⊢;exact iy h K)
    ·rename_i e3;simp only [e3]
     simp only [dI] at h ⊢;exact iy h K
    ·cases h
def yS {all:List Oper}:∀{l:Ord} {md:MD} {td:List TD} {ke:XM R} {kd:DM},xK P E D all l md td ke=some r→(∀md td,ke md td=some r→kd md td)→xC P { E with base:=b } D.gM all l md td kd
 | .done,md,td,ke,kd,h,K=>K _ _ h
 | .last i q,md,td,ke,kd,h,K=>iy (ke:=fun m t=>xK P E D all q m t ke) h fun md td h=>yS (l:=q) h K
 | .one _ _,md,td,ke,kd,h,K=>by cases h
 | .fork _ _ _ _,md,td,ke,kd,h,K=>by cases h
 | .fork3 _ _ _ _ _ _,md,td,ke,kd,h,K=>by cases h
 | .now _ _,md,td,ke,kd,h,K=>by cases h
def jZ [Same R] {X:Option (List Nat)} {all:List Oper}:∀{f:Nat} {l:Ord} {st:Bool} {md0 md:MD} {td:List TD} {ke:XM R} {kd:DM},mX P E D X all f l st md0 md td ke=some r→(∀md td,ke md td=some r→kd md td)→mY P { E with base:=b } D.gM X all f l st md0 md td kd
 | 0,l,st,md0,md,td,ke,kd,h,K=>by cases h
 | f+1,l,st,md0,md,td,ke,kd,h,K=>by
  unfold mX at h
  unfold mY
  split at h
  ·rename_i e1;simp only [e1];exact iy h K
  ·rename_i e1;simp only [e1]
   exact iy h fun md td h=>yS (E:={ E with quiet:=false }) h K
  ·rename_i e1;simp only [e1]
   exact iy h fun md td h=>⟨jZ (fP h).1 K,jZ (fP h).2 K⟩
  ·rename_i e1;simp only [e1]
   exact iy h fun md td h=>⟨jZ (fP h).1 K,jZ (fP (fP h).2).1 K,jZ (fP (fP h).2).2 K⟩
  ·rename_i e1;simp only [e1]
   exact iy h fun md td h=>iy h fun md td h=>jZ h K
  ·cases h
def mC {sy:List (TypeId×Sh)}:∀{l:List ResultVar} {md:MD} {td:List TD} {ke:List TD→Option R} {kd:List TD→Prop},gA E sy l md td ke=some r→(∀l,ke l=some r→kd l)→kf { E with base:=b } sy l md td kd
 | [],md,td,ke,kd,h,K=>K _ h
 | .tmp i::l,md,td,ke,kd,h,K=>ff (ke:=fun x m t=>gd (r8 x) (gA E sy l m t (fun vs=>ke (x::vs)))) h fun x md td h=>by
  rw [aC] at h
  rw [h.1]
  exact mC (ke:=fun vs=>ke (x::vs)) h.2 fun l h=>K _ h
 | .cell i ty::l,md,td,ke,kd,h,K=>by
  unfold gA at h
  unfold kf
  split at h
  ·rename_i e0;simp only [e0]
   split at h
   ·rename_i e1 e2;simp only [e1,e2]
    refine eX h fun xs md td h=>?_
    rw [aC] at h
    rw [h.1]
    exact mC (ke:=fun vs=>ke (.g xs::vs)) h.2 fun l h=>K _ h
   ·rename_i e1 e2;simp only [e1,e2]
    split at h
    ·rename_i e3;simp only [e3]
     refine ff h fun x md td h=>?_
     rw [aC] at h
     rw [h.1]
     exact mC (ke:=fun vs=>ke (x::vs)) h.2 fun l h=>K _ h
    ·cases h
   ·cases h
  ·cases h
end Go.Proofs.YtdbjakibneeeiaaGreatDoor.Sx
namespace Go.Proofs.YtdbjakibneeeiaaGreatDoor.Sx
open Go.RowKit
section
variable {Ob : Nat → Prop} {fs : List Fact}
def As {s:Sh} {x:TD} {y:Den s} (h:fF s x=some y) {t:T} (k:bJ fs x t):bJ fs (Bc s y) t:=by
 obtain ⟨v,rfl,hv⟩:=vK h k
 exact ia (sZ (wj h hv))
def gP:∀{l:List HI} {td:List TD} {x:af (oV l)} {t:List T},qK l td=some x→aS fs td t→aS fs (pK l x) t
 | [],[],x,t,h,k=>k
 | [],_::_,x,t,h,k=>by cases h
 | q::l,[],x,t,h,k=>by cases h
 | q::l,c::td,x,t,h,k=>by
  obtain ⟨u,us,rfl,h1,h2⟩:=k.tail
  have h:Jl q c l (qK l td)=some x:=h
  cases q with
  | any=>exact aS.cons (c:=.any) trivial (gP (l:=l) h h2)
  | p b o=>
   cases c with
   | p b' o'=>
    have h:gd (b==b'&&o==o') (qK l td)=some x:=h
    obtain ⟨hb,h9⟩:=aC.1 h
    rw [Bool.and_eq_true,beq_iff_eq,beq_iff_eq] at hb
    obtain ⟨rfl,rfl⟩:=hb
    exact aS.cons h1 (gP (l:=l) h9 h2)
   | _=>cases h
  | r i=>
   cases c with
   | r i'=>
    have h:gd (i==i') (qK l td)=some x:=h
    obtain ⟨hb,h9⟩:=aC.1 h
    rw [beq_iff_eq] at hb
    subst hb
    exact aS.cons h1 (gP (l:=l) h9 h2)
   | _=>cases h
  | fn f cs=>
   cases c with
   | fn f' cs'=>
    have h:gd (f==f'&&decide (cs=cs')) (qK l td)=some x:=h
    obtain ⟨hb,h9⟩:=aC.1 h
    rw [Bool.and_eq_true,beq_iff_eq,decide_eq_true_eq] at hb
    obtain ⟨rfl,rfl⟩:=hb
    exact aS.cons h1 (gP (l:=l) h9 h2)
   | _=>cases h
  | d s=>
   have h:(match fF s c with
    | some y=>match qK l td with
     | some z=>some ((y,z):Den s×af (oV l))
     | none=>none
    | none=>none)=some x:=h
   split at h
   ·rename_i y e1
    split at h
    ·rename_i z e2
     cases h
     exact aS.cons (As e1 h1) (gP (l:=l) e2 h2)
    ·cases h
   ·cases h
mutual
def vE:∀{s:Sh} {cs:List TD} {x:Den s} {r:List TD} {ts:List T},fM s cs=some (x,r)→aS fs cs ts→∃(v1:List Value) (t2:List T),ts=v1.map T.v++t2∧aW (eC fs) s x v1∧aS fs r t2
 | .int,cs,x,r,ts,h,k=>by
  match cs,h,k with
  | .v (.int .i64 z)::cs,h,k=>
   cases h
   obtain ⟨t,us,rfl,h1,h2⟩:=k.tail
   have h1:t=.v (.int .i64 x):=h1
   exact ⟨[.int .i64 x],us,by rw [h1];rfl,rfl,h2⟩
 | .bool,cs,x,r,ts,h,k=>by
  match cs,h,k with
  | .v (.bool z)::cs,h,k=>
   cases h
   obtain ⟨t,us,rfl,h1,h2⟩:=k.tail
   have h1:t=.v (.bool x):=h1
   exact ⟨[.bool x],us,by rw [h1];rfl,rfl,h2⟩
 | .str,cs,x,r,ts,h,k=>by
  match cs,h,k with
  | .v (.string z)::cs,h,k=>
   cases h
   obtain ⟨t,us,rfl,h1,h2⟩:=k.tail
   have h1:t=.v (.string x):=h1
   exact ⟨[.string x],us,by rw [h1];rfl,rfl,h2⟩
 | .num _,cs,x,r,ts,h,k=>by
  match cs,h,k with
  | .v z::cs,h,k=>
   have h:(bif Value.oneCell' z then some (z,cs) else none)=some (x,r):=h
   cases hz:z.oneCell' with
   | false=>rw [hz] at h;cases h
   | true=>
    rw [hz] at h
    cases h
    obtain ⟨t,us,rfl,h1,h2⟩:=k.tail
    have h1:t=.v x:=h1
    exact ⟨[x],us,by rw [h1];rfl,⟨rfl,hz⟩,h2⟩
 | .flat l,cs,x,r,ts,h,k=>vX (l:=l) h k
 | .row e,cs,x,r,ts,h,k=>by
  match cs,h,k with
  | .d s L::cs,h,k=>
   have h:(Sh.jA s e L).map (fun L=>(L,cs))=some (x,r):=h
   cases hK:Sh.jA s e L with
   | none=>rw [hK] at h;cases h
   | some K=>
    rw [hK] at h
    cases h
    obtain ⟨t,us,rfl,⟨y,rfl,h1⟩,h2⟩:=k.tail
    exact ⟨[y],us,rfl,qu hK h1,h2⟩
  | .v (.slice none 0 0)::cs,h,k=>
   cases h
   obtain ⟨t,us,rfl,h1,h2⟩:=k.tail
   have h1:t=.v (.slice none 0 0):=h1
   exact ⟨[.slice none 0 0],us,by rw [h1];rfl,⟨none,0,0,[],rfl,⟨Nat.le_refl _,Nat.zero_le _,fun _=>⟨rfl,rfl⟩⟩,rfl,rfl,.inl rfl⟩,h2⟩
def vX:∀{l:List Sh} {cs:List TD} {x:af l} {r:List TD} {ts:List T},uF l cs=some (x,r)→aS fs cs ts→∃(v1:List Value) (t2:List T),ts=v1.map T.v++t2∧dz (eC fs) l x v1∧aS fs r t2
 | [],cs,x,r,ts,h,k=>by
  cases h
  exact ⟨[],ts,rfl,rfl,k⟩
 | s::l,cs,x,r,ts,h,k=>by
  simp only [uF] at h
  split at h
  ·rename_i x1 r1 e1
   split at h
   ·rename_i x2 r2 e2
    cases h
    obtain ⟨v1,t2,rfl,k1,k2⟩:=vE (s:=s) e1 k
    obtain ⟨v3,t4,rfl,k3,k4⟩:=vX (l:=l) e2 k2
    exact ⟨v1++v3,t4,by rw [List.map_append,List.append_assoc],⟨v1,v3,rfl,k1,k3⟩,k4⟩
   ·cases h
  ·cases h
end
def jy:∀{l:List HI} {td:List TD} {x:af (oV l)} {t:List T},iu l td=some x→aS fs td t→aS fs (r7 l x) t
 | [],[],x,t,h,k=>k
 | [],_::_,x,t,h,k=>by cases h
 | .any::l,td,x,t,h,k=>by cases h
 | .p b o::l,td,x,t,h,k=>by
  match td,h,k with
  | .p b' o'::td,h,k=>
   obtain ⟨u,us,rfl,h1,h2⟩:=k.tail
   have h:gd (b==b'&&o==o') (iu l td)=some x:=h
   obtain ⟨hb,h9⟩:=aC.1 h
   rw [Bool.and_eq_true,beq_iff_eq,beq_iff_eq] at hb
   obtain ⟨rfl,rfl⟩:=hb
   exact aS.cons h1 (jy (l:=l) h9 h2)
 | .r i::l,td,x,t,h,k=>by
  match td,h,k with
  | .r i'::td,h,k=>
   obtain ⟨u,us,rfl,h1,h2⟩:=k.tail
   have h:gd (i==i') (iu l td)=some x:=h
   obtain ⟨hb,h9⟩:=aC.1 h
   rw [beq_iff_eq] at hb
   subst hb
   exact aS.cons h1 (jy (l:=l) h9 h2)
 | .fn f cs::l,td,x,t,h,k=>by
  match td,h,k with
  | .fn f' cs'::td,h,k=>
   obtain ⟨u,us,rfl,h1,h2⟩:=k.tail
   have h:gd (f==f'&&decide (cs=cs')) (iu l td)=some x:=h
   obtain ⟨hb,h9⟩:=aC.1 h
   rw [Bool.and_eq_true,beq_iff_eq,decide_eq_true_eq] at hb
   obtain ⟨rfl,rfl⟩:=hb
   exact aS.cons h1 (jy (l:=l) h9 h2)
 | .d s::l,td,x,t,h,k=>by
  have h:(match fM s td with
   | some (y,t)=>match iu l t with
    | some z=>some ((y,z):Den s×af (oV l))
    | none=>none
   | none=>none)=some x:=h
  split at h
  ·rename_i y r e1
   split at h
   ·rename_i z e2
    cases h
    obtain ⟨v1,t2,rfl,h1,h2⟩:=vE e1 k
    exact (gY (s:=s) h1).rts.app (jy (l:=l) e2 h2)
   ·cases h
  ·cases h
def oZ:∀{l:List (Option (List HI×TypeId))} {o:List (Option (List TD×TypeId))} {x:bq (Jz l)},mU l o=some x→(jl l x).length≤o.length∧(jl l x).length=l.length∧∀(b:Nat) cs' ty,(jl l x)[b]?=some (some (cs',ty))→∃cs,o[b]?=some (some (cs,ty))∧∀{fs:List Fact} {ts:List T},aS fs cs ts→aS fs cs' ts
 | [],o,x,h=>⟨Nat.zero_le _,rfl,fun b cs' ty hb=>by simp [jl] at hb⟩
 | none::l,[],x,h=>by simp [mU] at h
 | some _::l,[],x,h=>by simp [mU] at h
 | none::l,q::o,x,h=>by
  obtain ⟨h1,h2,h3⟩:=oZ (l:=l) (o:=o) (x:=x) h
  refine ⟨by simpa [jl] using h1,by simpa [jl] using h2,fun b cs' ty hb=>?_⟩
  cases b with
  | zero=>simp [jl] at hb
  | succ b=>simpa using h3 b cs' ty (by simpa [jl] using hb)
 | some (s,e)::l,none::o,x,h=>by simp [mU] at h
 | some (s,e)::l,some (cs,e')::o,x,h=>by
  rw [mU,aC,beq_iff_eq] at h
  obtain ⟨rfl,h⟩:=h
  split at h
  ·rename_i y e1
   split at h
   ·rename_i z e2
    obtain rfl:=Option.some.inj h
    obtain ⟨h1,h2,h3⟩:=oZ (l:=l) (o:=o) (x:=z) e2
    refine ⟨by simpa [jl] using h1,by simpa [jl] using h2,fun b cs' ty hb=>?_⟩
    cases b with
    | zero=>
     simp [jl] at hb
     obtain ⟨rfl,rfl⟩:=hb
     exact ⟨cs,rfl,fun {fs ts} hr=>jy e1 hr⟩
    | succ b=>simpa using h3 b cs' ty (by simpa [jl] using hb)
   ·cases h
  ·cases h
def E3 {s e:Sh} {L:List (Den s)} {K:List (Den e)} (h:Sh.jA s e L=some K) {ε:TypeId} {z:Nat}:(⟨ε,z,s,L⟩:kP)=⟨ε,z,e,K⟩:=by
 unfold Sh.jA at h
 split at h
 ·rename_i hb
  have he:=Sh.yY hb
  subst he
  simp at h
  subst h
  rfl
 ·cases h
def p7:∀{l:List (Option (TypeId×Nat×Sh))} {o:List (Option kP)} {x:af (Mv l)},qB l o=some x→(kK l x).length≤o.length∧(kK l x).length=l.length∧∀(i:Nat) r,(kK l x)[i]?=some (some r)→o[i]?=some (some r)
 | [],o,x,h=>⟨Nat.zero_le _,rfl,fun b cs' hb=>by simp [kK] at hb⟩
 | none::l,[],x,h=>by simp [qB] at h
 | some _::l,[],x,h=>by simp [qB] at h
 | none::l,q::o,x,h=>by
  obtain ⟨h1,h2,h3⟩:=p7 (l:=l) (o:=o) (x:=x) h
  refine ⟨by simpa [kK] using h1,by simpa [kK] using h2,fun b r hb=>?_⟩
  cases b with
  | zero=>simp [kK] at hb
  | succ b=>simpa using h3 b r (by simpa [kK] using hb)
 | some (e,z,s)::l,none::o,x,h=>by simp [qB] at h
 | some (e,z,s)::l,some q::o,x,h=>by
  rw [qB,aC,Bool.and_eq_true,beq_iff_eq,beq_iff_eq] at h
  obtain ⟨⟨rfl,rfl⟩,h⟩:=h
  split at h
  ·rename_i y e1
   split at h
   ·rename_i w e2
    obtain rfl:=Option.some.inj h
    obtain ⟨h1,h2,h3⟩:=p7 (l:=l) (o:=o) (x:=w) e2
    refine ⟨by simpa [kK] using h1,by simpa [kK] using h2,fun b r hb=>?_⟩
    cases b with
    | zero=>
     simp [kK] at hb
     subst hb
     obtain ⟨a1,a2,a3,a4⟩:=q
     simp only [List.getElem?_cons_zero,Option.some.injEq]
     exact E3 e1
    | succ b=>simpa using h3 b r (by simpa [kK] using hb)
   ·cases h
  ·cases h
def CR {a:Bool} {nb nr:Nat} {s:Sh} {x:Den s}:bU a nb nr [Bc s x]=true:=by cases s <;> rfl
mutual
def qJ {nb nr:Nat}:∀{s:Sh} {x:Den s} {r:List TD},bU false nb nr r=true→bU false nb nr (eR s x++r)=true
 | .int,x,r,h=>h
 | .bool,x,r,h=>h
 | .str,x,r,h=>h
 | .num _,x,r,h=>h
 | .flat l,x,r,h=>oa (l:=l) h
 | .row e,x,r,h=>h
def oa {nb nr:Nat}:∀{l:List Sh} {x:af l} {r:List TD},bU false nb nr r=true→bU false nb nr (m7 l x++r)=true
 | [],x,r,h=>h
 | s::l,x,r,h=>by
  show bU false nb nr (eR s x.1++m7 l x.2++r)=true
  rw [List.append_assoc]
  exact qJ (s:=s) (oa (l:=l) h)
end
def gQ {nb nr:Nat}:∀{l:List HI} {x:af (oV l)},fN nb nr l=true→bU true nb nr (pK l x)=true
 | [],x,h=>rfl
 | .any::l,x,h=>by show bU true nb nr (.any::pK l x)=true;rw [cR,gQ (l:=l) (x:=x) h];rfl
 | .p b o::l,x,h=>by
  have h:(Nat.blt b nb&&fN nb nr l)=true:=h
  rw [Bool.and_eq_true] at h
  show bU true nb nr (.p b o::pK l x)=true
  rw [cR,gQ (l:=l) (x:=x) h.2,Bool.and_true]
  simp only [bU,Bool.and_true];exact h.1
 | .r i::l,x,h=>by
  have h:(Nat.blt i nr&&fN nb nr l)=true:=h
  rw [Bool.and_eq_true] at h
  show bU true nb nr (.r i::pK l x)=true
  rw [cR,gQ (l:=l) (x:=x) h.2,Bool.and_true]
  simp only [bU,Bool.and_true];exact h.1
 | .fn f c::l,x,h=>by
  have h:((c.all fun q=>Nat.blt q.1 nb)&&fN nb nr l)=true:=h
  rw [Bool.and_eq_true] at h
  show bU true nb nr (.fn f c::pK l x)=true
  rw [cR,gQ (l:=l) (x:=x) h.2,Bool.and_true]
  simp only [bU,Bool.and_true];exact h.1
 | .d s::l,x,h=>by
  show bU true nb nr (Bc s x.1::pK l x.2)=true
  rw [cR,gQ (l:=l) (x:=x.2) h,CR];rfl
def jz {nb nr:Nat}:∀{l:List HI} {x:af (oV l)} {td:List TD},iu l td=some x→fN nb nr l=true→bU false nb nr (r7 l x)=true
 | [],x,td,g,h=>rfl
 | .any::l,x,td,g,h=>by cases g
 | .p b o::l,x,td,g,h=>by
  match td,g with
  | .p b' o'::td,g=>
   have g:gd (b==b'&&o==o') (iu l td)=some x:=g
   have h:(Nat.blt b nb&&fN nb nr l)=true:=h
   rw [Bool.and_eq_true] at h
   show bU false nb nr (.p b o::r7 l x)=true
   rw [cR,jz (l:=l) (x:=x) (aC.1 g).2 h.2,Bool.and_true]
   simp only [bU,Bool.and_true];exact h.1
 | .r i::l,x,td,g,h=>by
  match td,g with
  | .r i'::td,g=>
   have g:gd (i==i') (iu l td)=some x:=g
   have h:(Nat.blt i nr&&fN nb nr l)=true:=h
   rw [Bool.and_eq_true] at h
   show bU false nb nr (.r i::r7 l x)=true
   rw [cR,jz (l:=l) (x:=x) (aC.1 g).2 h.2,Bool.and_true]
   simp only [bU,Bool.and_true];exact h.1
 | .fn f c::l,x,td,g,h=>by
  match td,g with
  | .fn f' c'::td,g=>
   have g:gd (f==f'&&decide (c=c')) (iu l td)=some x:=g
   have h:((c.all fun q=>Nat.blt q.1 nb)&&fN nb nr l)=true:=h
   rw [Bool.and_eq_true] at h
   show bU false nb nr (.fn f c::r7 l x)=true
   rw [cR,jz (l:=l) (x:=x) (aC.1 g).2 h.2,Bool.and_true]
   simp only [bU,Bool.and_true];exact h.1
 | .d s::l,x,td,g,h=>by
  have g:(match fM s td with
   | some (y,t)=>match iu l t with
    | some z=>some ((y,z):Den s×af (oV l))
    | none=>none
   | none=>none)=some x:=g
  split at g
  ·rename_i y r e1
   split at g
   ·rename_i z e2
    cases g
    exact qJ (s:=s) (jz (l:=l) e2 h)
   ·cases g
  ·cases g
def oX {nb nr:Nat}:∀{l:List (Option (List HI×TypeId))} {o:List (Option (List TD×TypeId))} {x:bq (Jz l)},mU l o=some x→qq nb nr l=true→iD nb nr (jl l x)=true
 | [],o,x,g,h=>rfl
 | none::l,[],x,g,h=>by cases g
 | none::l,_::o,x,g,h=>oX (l:=l) (o:=o) (x:=x) g h
 | some (s,ty)::l,[],x,g,h=>by cases g
 | some (s,ty)::l,none::o,x,g,h=>by cases g
 | some (s,ty)::l,some (cs,e')::o,x,g,h=>by
  rw [mU,aC] at g
  obtain ⟨_,g⟩:=g
  have h:(fN nb nr s&&qq nb nr l)=true:=h
  rw [Bool.and_eq_true] at h
  split at g
  ·rename_i y e1
   split at g
   ·rename_i z e2
    obtain rfl:=Option.some.inj g
    show (bU false nb nr (r7 s y)&&iD nb nr (jl l z))=true
    rw [jz e1 h.1,oX e2 h.2];rfl
   ·cases g
  ·cases g
def I7 {md md':MD} {td':List TD} {m:M} {t:List T} (ht':aS fs td' t)
  (ho:md'.own.length≤md.own.length∧∀(b:Nat) cs' ty,md'.own[b]?=some (some (cs',ty))→∃cs,md.own[b]?=some (some (cs,ty))∧∀{fs:List Fact} {ts:List T},aS fs cs ts→aS fs cs' ts)
  (hr:md'.rows.length≤md.rows.length∧∀(i:Nat) r,md'.rows[i]?=some (some r)→md.rows[i]?=some (some r))
  (hf:(bU true md'.own.length md'.rows.length td'&&iD md'.own.length md'.rows.length md'.own)=true) (hm:RM Ob fs md m):∃m' t',Le m t m' t'∧RM Ob fs md' m'∧aS fs td' t':=by
 obtain ⟨o1,o2⟩:=ho
 obtain ⟨r1,r2⟩:=hr
 have lo:md'.own.length≤m.own.length:=hm.ol▸o1
 have lr:md'.rows.length≤m.rows.length:=hm.rl▸r1
 rw [Bool.and_eq_true] at hf
 have hown:∀(b:Nat) (cs:List TD) (ty:TypeId),md'.own[b]?=some (some (cs,ty))→∃ts,(lF md'.own m.own)[b]?=some (some (ts,ty))∧aS fs cs ts:=fun b cs ty hb=>by
  obtain ⟨cs0,h1,h2⟩:=o2 b cs ty hb
  obtain ⟨ts,h3,h4⟩:=hm.own b cs0 ty h1
  exact ⟨ts,by rw [oR lo hb];exact h3,h2 h4⟩
 refine ⟨⟨lF md'.own m.own,lF md'.rows m.rows,m.facts⟩,A6 td' t,⟨xq ht',⟨rC lo,rC lr,fun _ h=>h⟩,?_⟩,⟨hm.fe,hm.ob,jH lo,hown,jH lr,fun i r hr=>?_⟩,YH ht'⟩
 ·rw [Bool.and_eq_true]
  simp only
  rw [← jH lo,← jH lr]
  refine ⟨yc ht' hf.1,tO fun b cs ty hb=>?_⟩
  obtain ⟨⟨cs',ty'⟩,hy⟩:=pI hb
  obtain ⟨ts,h1,h2⟩:=hown b cs' ty' hy
  rw [h1] at hb
  obtain ⟨rfl,rfl⟩:ts=cs∧ty'=ty:=by simpa using hb
  exact A9 h2 (iD.get hf.2 b cs' ty' hy)
 ·obtain ⟨xs,h1,h2⟩:=hm.row i r (r2 i r hr)
  exact ⟨xs,by simp only;rw [oR lr hr];exact h1,h2⟩
def Hf {h:Lay} {md:MD} {td:List TD} {m:M} {t:List T} {x:h.T} (hg:M0 h md td=some x) (hm:RM Ob fs md m) (ht:aS fs td t):∃m' t',Le m t m' t'∧RM Ob fs (lay h x).1 m'∧aS fs (lay h x).2 t':=by
 unfold M0 at hg
 rw [aC,Bool.and_eq_true] at hg
 obtain ⟨hf,hg⟩:=hg
 split at hg
 ·rename_i a e1
  split at hg
  ·rename_i c e2
   split at hg
   ·rename_i d e3
    cases hg
    obtain ⟨o1,o2,o3⟩:=oZ e2
    obtain ⟨r1,r2,r3⟩:=p7 e3
    refine I7 (md':=⟨jl h.own c,kK h.rows d⟩) (gP e1 ht) ⟨o1,o3⟩ ⟨r1,r3⟩ ?_ hm
    rw [Bool.and_eq_true]
    refine ⟨gQ ?_,oX e2 ?_⟩
    ·show fN (jl h.own c).length (kK h.rows d).length h.slots=true
     rw [o2,r2]
     exact hf.1
    ·show qq (jl h.own c).length (kK h.rows d).length h.own=true
     rw [o2,r2]
     exact hf.2
   ·cases hg
  ·cases hg
 ·cases hg
def T.fk (σ τ:List Nat) (x:T):T:=match x with
 | .p b o=>match idx σ b with
  | some b'=>.p b' o
  | none=>.any
 | .fn f c=>match idxs σ c with
  | some c'=>.fn f c'
  | none=>.any
 | .s b n=>match idx σ b with
  | some b'=>.s b' n
  | none=>.any
 | .r i=>match idx τ i with
  | some i'=>.r i'
  | none=>.any
 | .q i o=>match idx τ i with
  | some i'=>.q i' o
  | none=>.any
 | .w i lo z=>match idx τ i with
  | some i'=>.w i' lo z
  | none=>.any
 | x=>x
def M.fk (m:M) (σ τ:List Nat):M:=⟨σ.map fun b=>((m.own[b]?).join).map fun q=>(q.1.map (T.fk σ τ),q.2),τ.map fun i=>(m.rows[i]?).join,m.facts⟩
def ig:∀{σ:List Nat} {b i:Nat},idx σ b=some i→σ[i]?=some b
 | [],b,i,h=>by cases h
 | x::l,b,i,h=>by
  unfold idx at h
  split at h
  ·rename_i e
   cases h
   rw [eq_of_beq e];rfl
  ·split at h
   ·rename_i j e
    cases h
    simpa using ig e
   ·cases h
def ptr.fk {β:List Nat} {σ:List Nat} {b b' o:Nat} {y:Value} (h:ptr β b o y) (hi:idx σ b=some b'):ptr (σ.map fun b=>β.getD b 0) b' o y:=by
 obtain ⟨g,hg,rfl⟩:=h
 refine ⟨g,?_,rfl⟩
 rw [List.getElem?_map,ig hi]
 simp [List.getD_eq_getElem?_getD,hg]
def vY {β:List Nat} {σ:List Nat}:∀{c c':List (Nat×Nat)},idxs σ c=some c'→c'.length=c.length∧∀{cs:List Value},(∀(j:Nat) (q:Nat×Nat),c[j]?=some q→∃u,cs[j]?=some u∧ptr β q.1 q.2 u)→∀(j:Nat) (q:Nat×Nat),c'[j]?=some q→∃u,cs[j]?=some u∧ptr (σ.map fun b=>β.getD b 0) q.1 q.2 u
 | [],c',h=>by cases h;exact ⟨rfl,fun {cs} _ j q hq=>by simp at hq⟩
 | (b,o)::c,c',h=>by
  unfold idxs at h
  split at h
  ·rename_i b' l' e1 e2
   cases h
   obtain ⟨h1,h2⟩:=vY (c:=c) e2
   refine ⟨by simp [h1],fun {cs} hc j q hq=>?_⟩
   cases j with
   | zero=>
    simp at hq
    subst hq
    obtain ⟨u,hu,hp⟩:=hc 0 (b,o) rfl
    exact ⟨u,hu,hp.fk e1⟩
   | succ j=>
    have:=h2 (cs:=cs.drop 1) (fun j q hq=>by obtain ⟨u,hu,hp⟩:=hc (j+1) q (by simpa using hq);exact ⟨u,by rw [List.getElem?_drop,Nat.add_comm];exact hu,hp⟩) j q (by simpa using hq)
    obtain ⟨u,hu,hp⟩:=this
    exact ⟨u,by rw [List.getElem?_drop,Nat.add_comm] at hu;exact hu,hp⟩
  ·cases h
def Rel.fk {β:List Nat} {ρ:List Value} (σ τ:List Nat) {x:T} {y:Value} (h:Rel β ρ x y):Rel (σ.map fun b=>β.getD b 0) (τ.map fun i=>ρ.getD i undef) (x.fk σ τ) y:=by
 have hrow:∀{i i':Nat} {v:Value},ρ[i]?=some v→idx τ i=some i'→(τ.map fun i=>ρ.getD i undef)[i']?=some v:=fun h hi=>by
  rw [List.getElem?_map,ig hi]
  simp [List.getD_eq_getElem?_getD,h]
 cases x with
 | any=>trivial
 | v x=>exact h
 | p b o=>
  unfold T.fk
  dsimp only
  split
  ·rename_i b' e;exact ptr.fk h e
  ·trivial
 | fn f c=>
  unfold T.fk
  dsimp only
  split
  ·rename_i c' e
   obtain ⟨cs,rfl,hl,hc⟩:=h
   obtain ⟨h1,h2⟩:=vY e
   exact ⟨cs,rfl,hl.trans h1.symm,h2 hc⟩
  ·trivial
 | s b n=>
  unfold T.fk
  dsimp only
  split
  ·rename_i b' e
   obtain ⟨g,hg,rfl⟩:=h
   exact ⟨g,by rw [List.getElem?_map,ig e];simp [List.getD_eq_getElem?_getD,hg],rfl⟩
  ·trivial
 | r i=>
  unfold T.fk
  dsimp only
  split
  ·rename_i i' e;exact hrow h e
  ·trivial
 | q i o=>
  unfold T.fk
  dsimp only
  split
  ·rename_i i' e
   obtain ⟨v,g,hv,hg,rfl⟩:=h
   exact ⟨v,g,hrow hv e,hg,rfl⟩
  ·trivial
 | w i lo z=>
  unfold T.fk
  dsimp only
  split
  ·rename_i i' e
   obtain ⟨a,n,c,hv,hl,rfl⟩:=h
   exact ⟨a,n,c,hrow hv e,hl,rfl⟩
  ·trivial
def ak.fk {β:List Nat} {ρ:List Value} (σ τ:List Nat) {t:List T} {l:List Value} (h:ak β ρ t l):ak (σ.map fun b=>β.getD b 0) (τ.map fun i=>ρ.getD i undef) (t.map (T.fk σ τ)) l:=by
 refine ⟨by rw [List.length_map];exact h.1,fun i x hx=>?_⟩
 rw [List.getElem?_map] at hx
 cases hi:t[i]? with
 | none=>rw [hi] at hx;cases hx
 | some z=>
  rw [hi] at hx
  obtain ⟨y,hy,hr⟩:=h.2 i z hi
  obtain rfl:z.fk σ τ=x:=Option.some.inj hx
  exact ⟨y,hy,hr.fk σ τ⟩
def pO:∀{l:List Nat},rP l=true→l.Nodup
 | [],_=>List.nodup_nil
 | x::l,h=>by
  simp only [rP,Bool.and_eq_true,Bool.not_eq_true'] at h
  exact List.nodup_cons.2 ⟨fun hm=>(by have:=List.contains_iff_mem.2 hm;rw [h.1] at this;exact absurd this (by simp)),pO h.2⟩
def Mem.fk {W:World} {G:Option Nat} {m:M} {β:List Nat} {ρ:List Value} {w:World} (h:Mem W G m β ρ w) {σ τ:List Nat} (h1:σ.Nodup) (h2:τ.Nodup) (h3:∀b∈σ,b<m.own.length) (h4:∀i∈τ,i<m.rows.length):Mem W G (m.fk σ τ) (σ.map fun b=>β.getD b 0) (τ.map fun i=>ρ.getD i undef) w:=by
 have gb:∀{b:Nat},b∈σ→β[b]?=some (β.getD b 0):=fun {b} hb=>by
  have:b<β.length:=by rw [h.bl];exact h3 b hb
  rw [List.getD_eq_getElem?_getD,List.getElem?_eq_getElem this];rfl
 have gr:∀{i:Nat},i∈τ→ρ[i]?=some (ρ.getD i undef):=fun {i} hi=>by
  have:i<ρ.length:=by rw [h.rl];exact h4 i hi
  rw [List.getD_eq_getElem?_getD,List.getElem?_eq_getElem this];rfl
 have at_b:∀{b g:Nat},(σ.map fun b=>β.getD b 0)[b]?=some g→∃b0,σ[b]?=some b0∧β[b0]?=some g:=fun {b g} hb=>by
  rw [List.getElem?_map] at hb
  cases hs:σ[b]? with
  | none=>rw [hs] at hb;cases hb
  | some b0=>
   rw [hs] at hb
   obtain rfl:=Option.some.inj hb
   exact ⟨b0,rfl,gb (List.mem_of_getElem? hs)⟩
 have at_r:∀{i:Nat} {v:Value},(τ.map fun i=>ρ.getD i undef)[i]?=some v→∃i0,τ[i]?=some i0∧ρ[i0]?=some v:=fun {i v} hi=>by
  rw [List.getElem?_map] at hi
  cases hs:τ[i]? with
  | none=>rw [hs] at hi;cases hi
  | some i0=>
   rw [hs] at hi
   obtain rfl:=Option.some.inj hi
   exact ⟨i0,rfl,gr (List.mem_of_getElem? hs)⟩
 have memb:∀{g:Nat},g∈(σ.map fun b=>β.getD b 0)→g∈β:=fun {g} hg=>by
  obtain ⟨b,hb,rfl⟩:=List.mem_map.1 hg
  exact List.mem_of_getElem? (gb hb)
 have memr:∀{v:Value},v∈(τ.map fun i=>ρ.getD i undef)→v∈ρ:=fun {v} hv=>by
  obtain ⟨i,hi,rfl⟩:=List.mem_map.1 hv
  exact List.mem_of_getElem? (gr hi)
 have inj:∀{σ:List Nat},σ.Nodup→∀{i j x:Nat},σ[i]?=some x→σ[j]?=some x→i=j:=fun {σ} hn {i j x} hi hj=>by
  obtain ⟨hi1,hi2⟩:=List.getElem?_eq_some_iff.1 hi
  obtain ⟨hj1,hj2⟩:=List.getElem?_eq_some_iff.1 hj
  exact (List.getElem_inj hn).1 (hi2.trans hj2.symm)
 constructor
 ·exact h.grown
 ·rw [List.Nodup,List.pairwise_iff_getElem]
  intro i j hi hj hij e
  have ei:=List.getElem?_eq_getElem hi
  have ej:=List.getElem?_eq_getElem hj
  obtain ⟨b1,s1,t1⟩:=at_b ei
  obtain ⟨b2,s2,t2⟩:=at_b ej
  rw [e] at t1
  have:=inj h.nd t1 t2
  subst this
  have:=inj h1 s1 s2
  omega
 ·simp [M.fk]
 ·exact fun g hg=>h.lo g (memb hg)
 ·intro b cs ty hb
  simp only [M.fk,List.getElem?_map] at hb
  cases hs:σ[b]? with
  | none=>rw [hs] at hb;cases hb
  | some b0=>
   rw [hs] at hb
   simp only [Option.map_some,Option.some.injEq,Option.map_eq_some_iff] at hb
   obtain ⟨⟨cs0,ty0⟩,hq,e⟩:=hb
   cases e
   obtain ⟨g,l,hg,hw,hr,ho⟩:=h.own b0 cs0 ty0 (Option.join_eq_some_iff.1 hq)
   refine ⟨g,l,?_,hw,hr.fk σ τ,ho⟩
   rw [List.getElem?_map,hs]
   simp [List.getD_eq_getElem?_getD,hg]
 ·simp [M.fk]
 ·intro i r hi
  simp only [M.fk,List.getElem?_map] at hi
  cases hs:τ[i]? with
  | none=>rw [hs] at hi;cases hi
  | some i0=>
   rw [hs] at hi
   simp only [Option.map_some,Option.some.injEq] at hi
   obtain ⟨v,hv,ho⟩:=h.row i0 r (Option.join_eq_some_iff.1 hi)
   exact ⟨v,by rw [List.getElem?_map,hs];simp [List.getD_eq_getElem?_getD,hv],ho⟩
 ·intro v hv g hg
  obtain ⟨a,b⟩:=h.rb v (memr hv) g hg
  exact ⟨fun hm=>a (memb hm),b⟩
 ·intro i j v u g hij hv hu
  obtain ⟨i0,s1,t1⟩:=at_r hv
  obtain ⟨j0,s2,t2⟩:=at_r hu
  refine h.rows i0 j0 v u g (fun e=>?_) t1 t2
  subst e
  exact hij (inj h2 s1 s2)
 ·intro φ hφ g hg
  obtain ⟨⟨a,b⟩,c⟩:=h.fact φ hφ g hg
  refine ⟨⟨fun x hx=>?_,fun i v hv e=>?_⟩,c⟩
  ·obtain ⟨b0,s1,t1⟩:=at_b hx
   simp only [M.fk,List.getElem?_map,s1,Option.map_some,Option.join_some]
   rw [a b0 t1];rfl
  ·obtain ⟨i0,s1,t1⟩:=at_r hv
   simp only [M.fk,List.getElem?_map,s1,Option.map_some,Option.join_some]
   rw [b i0 v t1 e]
def bJ.fk (σ τ:List Nat) {x:TD} {t:T} (h:bJ fs x t):bJ fs (x.fk σ τ) (t.fk σ τ):=by
 cases x with
 | any=>trivial
 | v x=>have h:t=.v x:=h;subst h;exact rfl
 | d s L=>obtain ⟨y,rfl,h⟩:=h;exact ⟨y,rfl,h⟩
 | g cs=>obtain ⟨y,rfl,h⟩:=h;exact ⟨y,rfl,h⟩
 | u cs=>obtain ⟨y,rfl,h⟩:=h;exact ⟨y,rfl,h⟩
 | e s L j o=>
  obtain ⟨A,xs,ad,rfl,h⟩:=h
  exact ⟨A,xs,ad,rfl,h⟩
 | p b o=>
  have h:t=_:=h
  subst h
  unfold TD.fk T.fk
  dsimp only
  cases idx σ b with
  | none=>trivial
  | some b'=>exact rfl
 | fn f c=>
  have h:t=_:=h
  subst h
  unfold TD.fk T.fk
  dsimp only
  cases idxs σ c with
  | none=>trivial
  | some b'=>exact rfl
 | s b n=>
  have h:t=_:=h
  subst h
  unfold TD.fk T.fk
  dsimp only
  cases idx σ b with
  | none=>trivial
  | some b'=>exact rfl
 | r i=>
  have h:t=_:=h
  subst h
  unfold TD.fk T.fk
  dsimp only
  cases idx τ i with
  | none=>trivial
  | some b'=>exact rfl
 | q i z j o=>
  have h:t=_:=h
  subst h
  unfold TD.fk T.fk
  dsimp only
  cases idx τ i with
  | none=>trivial
  | some b'=>exact rfl
def RM.fk {md:MD} {m:M} (h:RM Ob fs md m) (σ τ:List Nat):RM Ob fs (md.fk σ τ) (m.fk σ τ):=by
 refine ⟨h.fe,h.ob,by simp [MD.fk,M.fk],fun b cs ty hb=>?_,by simp [MD.fk,M.fk],fun i r hi=>?_⟩
 ·simp only [MD.fk,List.getElem?_map] at hb
  cases hs:σ[b]? with
  | none=>rw [hs] at hb;cases hb
  | some b0=>
   rw [hs] at hb
   simp only [Option.map_some,Option.some.injEq,Option.map_eq_some_iff] at hb
   obtain ⟨⟨cs0,ty0⟩,hq,e⟩:=hb
   cases e
   obtain ⟨ts,g1,g2⟩:=h.own b0 cs0 ty0 (Option.join_eq_some_iff.1 hq)
   refine ⟨ts.map (T.fk σ τ),?_,g2.map fun _ _=>bJ.fk σ τ⟩
   simp only [M.fk,List.getElem?_map,hs,Option.map_some,g1,Option.join_some]
 ·simp only [MD.fk,List.getElem?_map] at hi
  cases hs:τ[i]? with
  | none=>rw [hs] at hi;cases hi
  | some i0=>
   rw [hs] at hi
   simp only [Option.map_some,Option.some.injEq] at hi
   obtain ⟨xs,g1,g2⟩:=h.row i0 r (Option.join_eq_some_iff.1 hi)
   refine ⟨xs,?_,g2⟩
   simp only [M.fk,List.getElem?_map,hs,Option.map_some,g1,Option.join_some]
def Tk (W:World) (G:Option Nat) (m:M) (t:List T) (m':M) (t':List T):Prop:=∀(β:List Nat) (ρ:List Value) (a:Act) (w:World),Mem W G m β ρ w→ak β ρ t a.tmps.toList→∃β' ρ',Mem W G m' β' ρ' w∧ak β' ρ' t' a.tmps.toList
def Le.tk {W:World} {G:Option Nat} {m m':M} {t t':List T} (h:Le m t m' t'):Tk W G m t m' t':=fun β ρ a w hm hr=>⟨_,_,(h.use hm hr).1,(h.use hm hr).2⟩
def jL {W:World} {G:Option Nat} {h:Lay} {md:MD} {td:List TD} {m:M} {t:List T} {x:h.T} (hg:qH h md td=some x) (hm:RM Ob fs md m) (ht:aS fs td t):∃m' t',Tk W G m t m' t'∧RM Ob fs (lay h x).1 m'∧aS fs (lay h x).2 t':=by
 unfold qH at hg
 dsimp only at hg
 split at hg
 ·rename_i σ τ _ _
  rw [aC,Bool.and_eq_true,Bool.and_eq_true,Bool.and_eq_true] at hg
  obtain ⟨⟨⟨⟨g1,g2⟩,g3⟩,g4⟩,hg⟩:=hg
  obtain ⟨m',t',hle,h1,h2⟩:=Hf hg (hm.fk σ τ) (ht.map fun _ _=>bJ.fk σ τ)
  refine ⟨m',t',fun β ρ a w hM hR=>?_,h1,h2⟩
  have hM':=hM.fk (pO g1) (pO g2) (fun b hb=>by rw [← hm.ol];simpa [Nat.blt_eq] using List.all_eq_true.1 g3 b hb) (fun i hi=>by rw [← hm.rl];simpa [Nat.blt_eq] using List.all_eq_true.1 g4 i hi)
  exact hle.tk _ _ a w hM' (hR.fk σ τ)
 ·cases hg
def zG:∀{l:List (Exit×Lay)} {e:Exit} {md:MD} {td:List TD} {y:Bl l},tW l e md td=some y→∃(h:Lay) (x:h.T),qH h md td=some x∧∀{R:Type} (k:XE R),vH l y k=k e (lay h x).1 (lay h x).2
 | [],e,md,td,y,h=>by cases h
 | (e0,h0)::l,e,md,td,y,h=>by
  unfold tW at h
  split at h
  ·rename_i e1
   split at h
   ·rename_i x e2
    cases h
    have:=Ij e1
    subst this
    exact ⟨h0,x,e2,fun k=>rfl⟩
   ·cases h
  ·split at h
   ·rename_i y' e2
    cases h
    obtain ⟨h1,x,a,b⟩:=zG e2
    exact ⟨h1,x,a,fun k=>b k⟩
   ·cases h
end
end Go.Proofs.YtdbjakibneeeiaaGreatDoor.Sx
namespace Go.Proofs.YtdbjakibneeeiaaGreatDoor.Sx
open Go.RowKit
variable {P : Program} {W : World} {Q : Ending → World → Prop} {ds : List Deferred} {B : World → Prop} {D : EE} {E E' : Env} {Ob : Nat → Prop}
def tu {S R:Type} {step:S→Option (S ⊕ R)} {n:Nat} {x:S} {y:R} (h:b6 step (n+1) x=some y):(∃x',step x=some (.inl x')∧b6 step n x'=some y)∨step x=some (.inr y):=by
 have h:(match step x with
   | some (.inl y)=>b6 step n y
   | some (.inr r)=>some r
   | none=>none)=some y:=h
 split at h
 ·rename_i x' e;exact .inl ⟨x',e,h⟩
 ·rename_i r e;cases h;exact .inr e
 ·cases h
abbrev Goal (W:World) (ds:List Deferred) (Q':Exit→Act→World→Prop) (e:Exit) (m:M) (t:List T):Prop:=∀β ρ a w,Mem W none m β ρ w→ak β ρ t a.tmps.toList→a.defers=ds→Q' e a w
abbrev B5 (P:Program) (W:World) (ds:List Deferred) (Ob:Nat→Prop) (E':Env) (sch:List (Nat×(Ord×List Nat))) (G:XG) (c:Code):Prop:=
 aR sch c=true→∀{R:Type} {S:Same R} {r:R} {fs:List Fact} {md:MD} {m:M} {td:List TD} {t:List T} {ke:XE R} {Q':Exit→Act→World→Prop},RM Ob fs md m→aS fs td t→G c R S md td ke=some r→
  (∀e fs' md td m t,RM Ob fs' md m→aS fs' td t→ke e md td=some r→Goal W ds Q' e m t)→∀β ρ a w,Mem W none m β ρ w→ak β ρ t a.tmps.toList→a.defers=ds→c.wp P Q' a w
def AA {G:Option Nat} {body:Code} {m:M} {t:List T} {k:Exit→M→List T→Tree} {ι:Type} (ok:ι→Prop) (I:ι→M×List T) (μ:ι→Nat) (i0:ι) (k0:ok i0)
  (h0:Tk W G m t (I i0).1 (I i0).2)
  (round:∀i,ok i→∀β ρ a w,Mem W G (I i).1 β ρ w→ak β ρ (I i).2 a.tmps.toList→a.defers=ds→body.wp P (fun e a' w'=>match e with | .normal=>∃j β' ρ',ok j∧μ j<μ i∧Mem W G (I j).1 β' ρ' w'∧ak β' ρ' (I j).2 a'.tmps.toList∧a'.defers=ds | e=>∃m2 t2 β' ρ',Mem W G m2 β' ρ' w'∧ak β' ρ' t2 a'.tmps.toList∧a'.defers=ds∧(k e m2 t2).aD P W G Q ds) a w) :
  (Tree.loop body m t k).aD P W G Q ds:=by
 intro β ρ a w hm hr hd
 refine wp_loop_ghost (fun n a w=>∃i β ρ,ok i∧μ i=n∧Mem W G (I i).1 β ρ w∧ak β ρ (I i).2 a.tmps.toList∧a.defers=ds) (μ i0) (by obtain ⟨_,_,a1,a2⟩:=h0 _ _ _ _ hm hr;exact ⟨i0,_,_,k0,rfl,a1,a2,hd⟩) ?_
 rintro n a w ⟨i,β,ρ,hi,rfl,hm,hr,hd⟩
 refine Code.wp_mono ?_ (round i hi β ρ a w hm hr hd)
 intro e a' w' hh
 cases e with
 | normal=>
  obtain ⟨j,β',ρ',hj,hlt,a1,a2,hd'⟩:=hh
  exact ⟨μ j,hlt,j,_,_,hj,rfl,a1,a2,hd'⟩
 | _=>
  obtain ⟨m2,t2,β',ρ',a1,a2,hd',hk⟩:=hh
  exact ⟨m2,t2,_,_,a1,a2,hd',hk⟩
def qY {G:Option Nat} {body rest:Code} (l:Nat) (hl:findLabel body l=some rest) {m:M} {t:List T} {k:Exit→M→List T→Tree} {ι:Type} (ok:ι→Prop) (I:ι→M×List T) (μ:ι→Nat)
  (first:∀β ρ a w,Mem W G m β ρ w→ak β ρ t a.tmps.toList→a.defers=ds→body.wp P (fun e a' w'=>match e with | .goto l'=>l'=l∧∃j β' ρ',ok j∧Mem W G (I j).1 β' ρ' w'∧ak β' ρ' (I j).2 a'.tmps.toList∧a'.defers=ds | e=>∃m2 t2 β' ρ',Mem W G m2 β' ρ' w'∧ak β' ρ' t2 a'.tmps.toList∧a'.defers=ds∧(k e m2 t2).aD P W G Q ds) a w)
  (round:∀i,ok i→∀β ρ a w,Mem W G (I i).1 β ρ w→ak β ρ (I i).2 a.tmps.toList→a.defers=ds→rest.wp P (fun e a' w'=>match e with | .goto l'=>l'=l∧∃j β' ρ',ok j∧μ j<μ i∧Mem W G (I j).1 β' ρ' w'∧ak β' ρ' (I j).2 a'.tmps.toList∧a'.defers=ds | e=>∃m2 t2 β' ρ',Mem W G m2 β' ρ' w'∧ak β' ρ' t2 a'.tmps.toList∧a'.defers=ds∧(k e m2 t2).aD P W G Q ds) a w) :
  (Tree.scope body m t k).aD P W G Q ds:=by
 intro β ρ a w hm hr hd
 let I':Nat→Act→World→Prop:=fun n a w=>∃i β ρ,ok i∧μ i=n∧Mem W G (I i).1 β ρ w∧ak β ρ (I i).2 a.tmps.toList∧a.defers=ds
 refine wp_scope_jumps l (fun a w=>∃n,I' n a w) (fun a w=>leastOf (fun n=>I' n a w)) hl ?_ ?_
 ·refine Code.wp_mono ?_ (first β ρ a w hm hr hd)
  intro e a' w' hh
  cases e with
  | goto l'=>
   obtain ⟨e,j,β',ρ',hj,a1,a2,hd'⟩:=hh
   exact ⟨e,μ j,j,_,_,hj,rfl,a1,a2,hd'⟩
  | _=>
   obtain ⟨m2,t2,β',ρ',a1,a2,hd',hk⟩:=hh
   exact ⟨m2,t2,_,_,a1,a2,hd',hk⟩
 ·intro a w hJ
  obtain ⟨i,β,ρ,hok,hi,hm,hr,hd⟩:=(leastOf_spec hJ).1
  refine Code.wp_mono ?_ (round i hok β ρ a w hm hr hd)
  intro e a' w' hh
  cases e with
  | goto l'=>
   obtain ⟨e,j,β',ρ',hj,hlt,a1,a2,hd'⟩:=hh
   have hn:I' (μ j) a' w':=⟨j,_,_,hj,rfl,a1,a2,hd'⟩
   exact ⟨e,⟨μ j,hn⟩,Nat.lt_of_le_of_lt ((leastOf_spec ⟨μ j,hn⟩).2 (μ j) hn) (hi▸hlt)⟩
  | _=>
   obtain ⟨m2,t2,β',ρ',a1,a2,hd',hk⟩:=hh
   exact ⟨m2,t2,_,_,a1,a2,hd',hk⟩
def wF {E:Env} (hE:E.Ok P) {f:FuncId} {fn:Func} {c:Code} (hf:P.funcs[f]?=some fn) (hb:fn.body=some c) {args:List Value} {w:World} {R:Ending→World→Prop}
  (facts:List Fact) (hfacts:∀φ∈facts,∀g,φ.g=some g→∃o,w.heap[g]?=some o∧φ.holds o)
  (h:∀Q',(∀e m t,(finish E fn.results.toList e m t).aD P w none R []→Goal w [] Q' e m t)→∀a,Mem w none ⟨[],[],facts⟩ [] [] w→ak [] [] (args.map T.v++tX (fn.ntmps - args.length)) a.tmps.toList→a.defers=[]→c.wp P Q' a w):Calls P f (List.toArray args) w R:=by
 refine calls_of_wp hf hb ?_
 have hanys:∀(n:Nat) (l:List Value),l.length=n→ak [] [] (tX n) l:=by
  intro n
  induction n with
  | zero=>intro l hl;rw [List.eq_nil_of_length_eq_zero hl];exact ak.nil
  | succ n ih=>
   intro l hl
   cases l with
   | nil=>simp at hl
   | cons y l=>exact ak.cons trivial (ih l (by simpa using hl))
 refine h _ ?_ _ (cv facts hfacts) ?_ rfl
 ·intro e m' t' hh β ρ a w' hm hr hd
  have fin:(gu E fn.results.toList m' t' (fun vs m=>.ret (YO vs) m)).wp P w none R→∃v,(results fn a.tmps).run P w'=.ok v w'∧R (.returned v) w':=by
   intro hh
   obtain ⟨vs,m2,h2,hm2,hrun⟩:=jK hE _ _ _ _ hm hr hh
   exact ⟨_,lT hrun,h2 _ _ _ hm2⟩
  cases e with
  | normal=>exact ⟨hd,fin hh⟩
  | ret=>exact ⟨hd,fin hh⟩
  | _=>exact hh.elim
 ·have:=(ak.vals args).app (hanys (fn.ntmps - args.length) (List.replicate (fn.ntmps - args.length) undef) (by simp))
  simpa using this
def wP {fs:List Fact} {md:MD} {m:M} {td:List TD} {t:List T} {l:List (Exit×Lay)} {e:Exit} {y:Bl l} {R:Type} {r:R} {ke:XE R} {k:Exit→M→List T→Tree} (hg:tW l e md td=some y) (hc:vH l y ke=some r) (hm:RM Ob fs md m) (ht:aS fs td t)
  (K:∀e fs' md td m t,RM Ob fs' md m→aS fs' td t→ke e md td=some r→(k e m t).aD P W none Q ds):∃m2 t2,Tk W none m t m2 t2∧(k e m2 t2).aD P W none Q ds:=by
 obtain ⟨h,x,g1,g2⟩:=zG hg
 rw [g2] at hc
 obtain ⟨m2,t2,hle,hm2,ht2⟩:=jL g1 hm ht
 exact ⟨m2,t2,hle,K _ _ _ _ _ _ hm2 ht2 hc⟩
def AF {body:Code} {m:M} {t:List T} {k:Exit→M→List T→Tree} {i:Nat} {x:T} (hx:t[i]?=some x) (h:(dV x m t (fun _ m t=>Tree.loop body m t k)).aD P W none Q ds):(Tree.loop body m t k).aD P W none Q ds:=by
 intro β ρ a w hm hr hd
 obtain ⟨y,hy,hxy⟩:=hr.2 i x hx
 obtain ⟨x',m',t',h,hm',hr',_⟩:=cD hm hr hxy h
 exact h β ρ a w hm' hr' hd
def jQ (hOb:∀g,W.heap.size≤g→Ob g) {sy:List (TypeId×Sh)} {body:Code} {k:Exit→M→List T→Tree} {R:Type} {r:R} {ke:XM R}:∀(Z:List EG) {fs:List Fact} {md:MD} {m:M} {td:List TD} {t:List T},RM Ob fs md m→aS fs td t→wL sy Z md td ke=some r→
  (∀fs md td m t,RM Ob fs md m→aS fs td t→ke md td=some r→(Tree.loop body m t k).aD P W none Q ds)→(Tree.loop body m t k).aD P W none Q ds
 | [],fs,md,m,td,t,hm,ht,h,K=>K _ _ _ _ _ hm ht h
 | .share i::Z,fs,md,m,td,t,hm,ht,h,K=>by
  unfold wL at h
  split at h
  ·rename_i x hx
   obtain ⟨y,hy,hxy⟩:=ht.2 i x hx
   refine AF hy ?_
   exact cM (fun g h=>h.elim (hOb g) (fun h=>by cases h)) (sy:=sy) hxy hm ht (ff (kd:=fun _ md td=>wL sy Z md td ke=some r) h fun _ _ _ h=>h) fun fs' xd md td x m t _ _ hm ht h=>jQ hOb Z hm ht h K
  ·cases h
 | .slot d e s::Z,fs,md,m,td,t,hm,ht,h,K=>by
  unfold wL at h
  split at h
  ·rename_i hd
   obtain ⟨y,hy,hr⟩:=ht.2 d _ hd
   have hr:y=_:=hr
   subst hr
   refine gf d e s.size (by rw [eU];exact hy) ?_
   have hm2:=hm.uh (r:=⟨e,s.size,s,[]⟩) (xs:=[]) rfl rfl
   rw [← hm.rl]
   exact jQ hOb Z hm2 (ht.set d (x:=.r md.rows.length) (y:=.r md.rows.length) rfl) h K
  ·cases h
 | .cell i d e s::Z,fs,md,m,td,t,hm,ht,h,K=>by
  unfold wL at h
  split at h
  ·rename_i b o _
   split at h
   ·rename_i cs ty hb
    split at h
    ·rename_i hd
     obtain ⟨ts,h1,h2⟩:=hm.own b cs ty (Option.join_eq_some_iff.1 hb)
     obtain ⟨y,hy,hr⟩:=h2.2 d _ hd
     have hr:y=_:=hr
     subst hr
     refine CW b d e s.size ts ty h1 hy ?_
     have hm2:=(hm.uh (r:=⟨e,s.size,s,[]⟩) (xs:=[]) rfl rfl).cC b ty (h2.set d (x:=.r md.rows.length) (y:=.r md.rows.length) rfl)
     rw [← hm.rl]
     exact jQ hOb Z hm2 ht h K
    ·cases h
   ·cases h
  ·cases h
def nh (hD:D.gM.nq E P B E') (hq:E'.quiet=false) (hop:E'.opens=[]) (hbare:E'.bare=false) (hB:∀w,Below W.heap.size W w→B w) (hOb:∀g,W.heap.size≤g→Ob g) (H:FH) {id:Nat} {os:Array Oper} {draw:Bool} {R:Type} {S:Same R} {r:R} {fs:List Fact} {md:MD} {m:M} {td:List TD} {t:List T} {ke:XM R} {k:Exit→M→List T→Tree}
  (hm:RM Ob fs md m) (ht:aS fs td t) (h:rG P E' D H id os draw R S md td ke=some r) (K:∀fs' md td m t,RM Ob fs' md m→aS fs' td t→ke md td=some r→(k .normal m t).aD P W none Q ds):(exec E' H.sch (.region id os draw) m t k).aD P W none Q ds:=by
 cases draw with
 | false=>exact cy (E':={ E' with base:=E'.base }) (X:=none) hD ⟨hq,hop⟩ hB hOb _ hm (fun _ h=>h) (fun h=>absurd rfl h) hm ht (iy (b:=E'.base) (kd:=fun md td=>ke md td=some r) h fun _ _ h=>h) fun fs' md td m t _ _ hm ht h=>K _ _ _ _ _ hm ht h
 | true=>
  unfold rG at h
  unfold exec
  simp only at h ⊢
  cases hl:E'.lead with
  | succ n=>rw [hl] at h;cases h
  | zero=>
   rw [hl] at h
   simp only at h
   refine cN (fun g h=>h.elim (hOb g) (fun h=>by cases h)) _ _ (we _) hm ht (eX (kd:=fun _ m t=>(match lk H.sch id with
    | some (l,X)=>gd (tE m X) (mX P { E' with quiet:=true,lead:=0 } D (some X) os.toList (l.eB+1) l true (m.jF X) m t ke)
    | none=>none)=some r) h fun _ _ _ h=>h) fun fs' cs' md td ts' m t _ _ hm ht h=>?_
   cases hk:lk H.sch id with
   | none=>rw [hk] at h;cases h
   | some q=>
    obtain ⟨l,X⟩:=q
    rw [hk] at h
    simp only at h ⊢
    rw [aC] at h
    obtain ⟨ha,h⟩:=h
    rw [sU hm X ha,hbare]
    refine dJ (E':={ E' with quiet:=true,base:=m.facts,lead:=0,bare:=false }) ⟨hD.ok,hD.zero,hD.agg,hD.str,hD.keep,⟨hD.eok.zero,hD.eok.agg1,hD.eok.aggN,hD.eok.off,hD.eok.row,hD.eok.str,hD.eok.strs,hD.eok.ints,hD.eok.size,hD.eok.mixed,hD.eok.row1,hD.eok.meth,hD.eok.arr⟩⟩ ⟨rfl,rfl⟩ hop hB hOb _ l (st:=true) (hm.jF X) (fun _ h=>h) (fun _=>rfl) hm ht (kd:=fun md td=>ke md td=some r) ?_ fun fs' md td m t hm ht h=>K _ _ _ _ _ hm ht h
    have h2:=jZ (E:={ E' with quiet:=true,lead:=0 }) (b:=m.facts) (kd:=fun md td=>ke md td=some r) h fun _ _ h=>h
    rw [show ({ E' with quiet:=true,base:=m.facts,lead:=0,bare:=false }:Env)={ E' with quiet:=true,lead:=0,base:=m.facts } by rw [← hbare]]
    exact h2
def bN (hD:D.gM.nq E P B E') (hq:E'.quiet=false) (hop:E'.opens=[]) (hbare:E'.bare=false) (hB:∀w,Below W.heap.size W w→B w) (hOb:∀g,W.heap.size≤g→Ob g) (H:FH) {G:XG} (hG:∀c,B5 P W ds Ob E' H.sch G c) :
  ∀c,B5 P W ds Ob E' H.sch (dP P E' D H G) c
 | .skip,_,R,S,r,fs,md,m,td,t,ke,Q',hm,ht,h,K,β,ρ,a,w,hM,hR,hd=>wp_skip (K _ _ _ _ _ _ hm ht h _ _ _ _ hM hR hd)
 | .region id os draw,hs,R,S,r,fs,md,m,td,t,ke,Q',hm,ht,h,K,β,ρ,a,w,hM,hR,hd=>by
  refine dw (G:=none) (W:=W) (Q:=fun _ _=>True) (ds:=ds) hD.eok H.sch (.region id os draw) hs m t (fun e m t=>.done (Goal W ds Q' e m t)) Q' β ρ a w (fun e m' t' hh=>hh) hM hR hd ?_
  unfold dP at h
  cases hj:lk H.joins id with
  | none=>
   rw [hj] at h
   exact nh hD hq hop hbare hB hOb H hm ht h (fun fs' md td m t hm ht h=>K _ _ _ _ _ _ hm ht h)
  | some hl=>
   rw [hj] at h
   simp only at h
   split at h
   ·cases h
   ·rename_i x hx
    refine nh hD hq hop hbare hB hOb H hm ht hx (fun fs' md td m t hm ht hg=>?_)
    obtain ⟨m',t',l1,hm1,ht1⟩:=jL (W:=W) (G:=none) hg hm ht
    intro β ρ a w hM hR hd
    obtain ⟨β',ρ',a1,a2⟩:=l1 β ρ a w hM hR
    exact K _ _ _ _ _ _ hm1 ht1 h β' ρ' a w a1 a2 hd
 | .seq a b,hs,R,S,r,fs,md,m,td,t,ke,Q',hm,ht,h,K,β,ρ,a',w,hM,hR,hd=>by
  simp only [aR,Bool.and_eq_true] at hs
  refine wp_seq (bN hD hq hop hbare hB hOb H hG a hs.1 hm ht h (fun e fs' md td m t hm ht h=>?_) β ρ a' w hM hR hd)
  intro β ρ a w hM hR hd
  cases e with
  | normal=>exact bN hD hq hop hbare hB hOb H hG b hs.2 hm ht h K β ρ a w hM hR hd
  | _=>exact K _ _ _ _ _ _ hm ht h _ _ _ _ hM hR hd
 | .cond c x y,hs,R,S,r,fs,md,m,td,t,ke,Q',hm,ht,h,K,β,ρ,a,w,hM,hR,hd=>by
  simp only [aR,Bool.and_eq_true] at hs
  unfold dP at h
  have hc:=ht.ev c
  have hr:=hR.ev c
  split at h
  ·rename_i bb hdv
   rw [hdv] at hc
   have hc:ev t c=.v (.bool bb):=hc
   rw [hc] at hr
   have hr:a.eval c=.bool bb:=hr
   cases bb with
   | true=>exact wp_cond_true hr (bN hD hq hop hbare hB hOb H hG x hs.1 hm (vz ht c true) h K β ρ a w hM (mB hR hc) hd)
   | false=>exact wp_cond_false hr (bN hD hq hop hbare hB hOb H hG y hs.2 hm (vz ht c false) h K β ρ a w hM (mB hR hc) hd)
  ·cases h
 | .block id b,hs,R,S,r,fs,md,m,td,t,ke,Q',hm,ht,h,K,β,ρ,a,w,hM,hR,hd=>by
  refine wp_block (bN hD hq hop hbare hB hOb H hG b hs hm ht h (fun e fs' md td m t hm ht h=>?_) β ρ a w hM hR hd)
  intro β ρ a w hM hR hd
  cases e with
  | exit i=>
   simp only [Exit.inBlock]
   simp only at h
   cases hi:i==id with
   | true=>
    have:i=id:=by simpa using hi
    rw [if_pos this]
    rw [hi] at h;exact K _ _ _ _ _ _ hm ht h _ _ _ _ hM hR hd
   | false=>
    have:¬ i=id:=by simpa using hi
    rw [if_neg this]
    rw [hi] at h;exact K _ _ _ _ _ _ hm ht h _ _ _ _ hM hR hd
  | _=>exact K _ _ _ _ _ _ hm ht h _ _ _ _ hM hR hd
 | .loop b,hs,R,S,r,fs,md,m,td,t,ke,Q',hm,ht,h,K,β,ρ,a,w,hM,hR,hd=>by
  refine dw (G:=none) (W:=W) (Q:=fun _ _=>True) (ds:=ds) hD.eok H.sch (.loop b) hs m t (fun e m t=>.done (Goal W ds Q' e m t)) Q' β ρ a w (fun e m' t' hh=>hh) hM hR hd ?_
  unfold dP at h
  split at h
  ·cases h
  ·rename_i i hi
   split at h
   ·cases h
   ·rename_i hh hlk
    show (Tree.loop b m t (fun e m t=>.done (Goal W ds Q' e m t))).aD P W none (fun _ _=>True) ds
    refine jQ hOb hh.nil hm ht h fun fs md td m t hm ht h=>?_
    split at h
    ·cases h
    ·rename_i x0 hg
     split at h
     ·cases h
     ·rename_i y hl
      obtain ⟨m',t',l0,hm0,ht0⟩:=jL hg hm ht
      have hs:aR H.sch b=true:=hs
      refine AA (ι:=(Nat×hh.head.T)×List Fact×M×List T) (fun q=>b6 (fun x=>dP P E' D H G b (hh.head.T ⊕ Bl hh.exits) (@tU _ _ inferInstance (JR hh.exits)) (lay hh.head x).1 (lay hh.head x).2 (Am hh)) q.1.1 q.1.2=some y∧RM Ob q.2.1 (lay hh.head q.1.2).1 q.2.2.1∧aS q.2.1 (lay hh.head q.1.2).2 q.2.2.2) (fun q=>q.2.2) (fun q=>q.1.1) ((bn,x0),fs,m',t') ⟨hl,hm0,ht0⟩ l0 ?_
      rintro ⟨⟨n,x⟩,fs,m,t⟩ ⟨hi,hm,ht⟩ β ρ a w hM hR hd
      cases n with
      | zero=>cases hi
      | succ n=>
       rcases tu hi with ⟨x',h1,h2⟩ | h1
       ·refine bN hD hq hop hbare hB hOb H hG b hs hm ht h1 (fun e fs' md td m t hm ht h=>?_) β ρ a w hM hR hd
        intro β ρ a w hM hR hd
        cases e with
        | normal=>
         simp only [Am] at h
         split at h
         ·rename_i x2 hg2
          cases h
          obtain ⟨m',t',l1,hm1,ht1⟩:=jL (W:=W) (G:=none) hg2 hm ht
          obtain ⟨β',ρ',a1,a2⟩:=l1 β ρ a w hM hR
          exact ⟨((n,x'),fs',m',t'),β',ρ',⟨h2,hm1,ht1⟩,Nat.lt_succ_self n,a1,a2,hd⟩
         ·cases h
        | _=>
         simp only [Am] at h
         split at h <;> cases h
       ·refine bN hD hq hop hbare hB hOb H hG b hs hm ht h1 (fun e fs' md td m t hm ht h'=>?_) β ρ a w hM hR hd
        intro β ρ a w hM hR hd
        cases e with
        | normal=>
         simp only [Am] at h'
         split at h' <;> cases h'
        | _=>
         simp only [Am] at h'
         split at h'
         ·rename_i y2 hg2
          cases h'
          obtain ⟨m2,t2,hle,hk⟩:=wP (Q:=fun _ _=>True) (ds:=ds) (P:=P) (W:=W) (k:=fun e m t=>.done (Goal W ds Q' e m t)) hg2 h hm ht K
          obtain ⟨β',ρ',a1,a2⟩:=hle β ρ a w hM hR
          exact ⟨m2,t2,β',ρ',a1,a2,hd,hk⟩
         ·cases h'
 | .exit id,_,R,S,r,fs,md,m,td,t,ke,Q',hm,ht,h,K,β,ρ,a,w,hM,hR,hd=>wp_exit (K _ _ _ _ _ _ hm ht h _ _ _ _ hM hR hd)
 | .label _,_,R,S,r,fs,md,m,td,t,ke,Q',hm,ht,h,K,β,ρ,a,w,hM,hR,hd=>wp_label (K _ _ _ _ _ _ hm ht h _ _ _ _ hM hR hd)
 | .goto l,_,R,S,r,fs,md,m,td,t,ke,Q',hm,ht,h,K,β,ρ,a,w,hM,hR,hd=>wp_goto (K _ _ _ _ _ _ hm ht h _ _ _ _ hM hR hd)
 | .ret,_,R,S,r,fs,md,m,td,t,ke,Q',hm,ht,h,K,β,ρ,a,w,hM,hR,hd=>wp_ret (K _ _ _ _ _ _ hm ht h _ _ _ _ hM hR hd)
 | .scope b,hs,R,S,r,fs,md,m,td,t,ke,Q',hm,ht,h,K,β,ρ,a,w,hM,hR,hd=>by
  refine dw (G:=none) (W:=W) (Q:=fun _ _=>True) (ds:=ds) hD.eok H.sch (.scope b) hs m t (fun e m t=>.done (Goal W ds Q' e m t)) Q' β ρ a w (fun e m' t' hh=>hh) hM hR hd ?_
  clear hM hR hd β ρ a w
  unfold dP at h
  split at h
  ·cases h
  ·rename_i i hi
   split at h
   ·cases h
   ·rename_i hh hlk
    split at h
    ·cases h
    ·rename_i rest hl
     rw [aC] at h
     obtain ⟨hs2,h⟩:=h
     show (Tree.scope b m t (fun e m t=>.done (Goal W ds Q' e m t))).aD P W none (fun _ _=>True) ds
     have hs:aR H.sch b=true:=hs
     let step:hh.head.T→Option (hh.head.T ⊕ Bl hh.exits):=fun x=>G rest (hh.head.T ⊕ Bl hh.exits) (@tU _ _ inferInstance (JR hh.exits)) (lay hh.head x).1 (lay hh.head x).2 (lq hh)
     split at h
     ·cases h
     ·rename_i y hf
      refine qY hh.label hl (ι:=Empty) (fun _=>False) (fun q=>nomatch q) (fun q=>nomatch q) ?_ (fun q=>nomatch q)
      intro β ρ a w hM hR hd
      refine bN hD hq hop hbare hB hOb H hG b hs hm ht hf (fun e fs' md td m t hm ht h'=>?_) β ρ a w hM hR hd
      intro β ρ a w hM hR hd
      cases e with
      | goto l'=>
       simp only [lq] at h'
       split at h'
       ·split at h' <;> cases h'
       ·cases h'
      | _=>
       simp only [lq] at h'
       split at h'
       ·rename_i y2 hg2
        cases h'
        obtain ⟨m2,t2,hle,hk⟩:=wP (Q:=fun _ _=>True) (ds:=ds) (P:=P) (W:=W) (k:=fun e m t=>.done (Goal W ds Q' e m t)) hg2 h hm ht K
        obtain ⟨β',ρ',a1,a2⟩:=hle β ρ a w hM hR
        exact ⟨m2,t2,β',ρ',a1,a2,hd,hk⟩
       ·cases h'
     ·rename_i x0 hf
      split at h
      ·cases h
      ·rename_i y hy
       have exitCase:∀{e:Exit} {fs':List Fact} {md:MD} {td:List TD} {m:M} {t:List T} {β:List Nat} {ρ:List Value} {a:Act} {w:World},tW hh.exits e md td=some y→RM Ob fs' md m→aS fs' td t→Mem W none m β ρ w→ak β ρ t a.tmps.toList→a.defers=ds→∃m2 t2 β' ρ',Mem W none m2 β' ρ' w∧ak β' ρ' t2 a.tmps.toList∧a.defers=ds∧((fun e m t=>Tree.done (Goal W ds Q' e m t)) e m2 t2).aD P W none (fun _ _=>True) ds:=fun hg hm ht hM hR hd=>by
        obtain ⟨m2,t2,hle,hk⟩:=wP (Q:=fun _ _=>True) (ds:=ds) (P:=P) (W:=W) (k:=fun e m t=>.done (Goal W ds Q' e m t)) hg h hm ht K
        obtain ⟨β',ρ',a1,a2⟩:=hle _ _ _ _ hM hR
        exact ⟨m2,t2,β',ρ',a1,a2,hd,hk⟩
       refine qY hh.label hl (ι:=(Nat×hh.head.T)×List Fact×M×List T) (fun q=>b6 step q.1.1 q.1.2=some y∧RM Ob q.2.1 (lay hh.head q.1.2).1 q.2.2.1∧aS q.2.1 (lay hh.head q.1.2).2 q.2.2.2) (fun q=>q.2.2) (fun q=>q.1.1) ?_ ?_
       ·intro β ρ a w hM hR hd
        refine bN hD hq hop hbare hB hOb H hG b hs hm ht hf (fun e fs' md td m t hm ht h'=>?_) β ρ a w hM hR hd
        intro β ρ a w hM hR hd
        cases e with
        | goto l'=>
         simp only [lq] at h'
         split at h'
         ·rename_i hl'
          split at h'
          ·rename_i x2 hg2
           cases h'
           obtain ⟨m',t',l1,hm1,ht1⟩:=jL (W:=W) (G:=none) hg2 hm ht
           obtain ⟨β',ρ',a1,a2⟩:=l1 β ρ a w hM hR
           exact ⟨eq_of_beq hl',((bn,x0),fs',m',t'),β',ρ',⟨hy,hm1,ht1⟩,a1,a2,hd⟩
          ·cases h'
         ·cases h'
        | _=>
         simp only [lq] at h'
         split at h' <;> cases h'
       ·rintro ⟨⟨n,x⟩,fs,m,t⟩ ⟨hi,hm,ht⟩ β ρ a w hM hR hd
        cases n with
        | zero=>cases hi
        | succ n=>
         rcases tu hi with ⟨x',h1,h2⟩ | h1
         ·refine hG rest hs2 hm ht h1 (fun e fs' md td m t hm ht h'=>?_) β ρ a w hM hR hd
          intro β ρ a w hM hR hd
          cases e with
          | goto l'=>
           simp only [lq] at h'
           split at h'
           ·rename_i hl'
            split at h'
            ·rename_i x2 hg2
             cases h'
             obtain ⟨m',t',l1,hm1,ht1⟩:=jL (W:=W) (G:=none) hg2 hm ht
             obtain ⟨β',ρ',a1,a2⟩:=l1 β ρ a w hM hR
             exact ⟨eq_of_beq hl',((n,x'),fs',m',t'),β',ρ',⟨h2,hm1,ht1⟩,Nat.lt_succ_self n,a1,a2,hd⟩
            ·cases h'
           ·cases h'
          | _=>
           simp only [lq] at h'
           split at h' <;> cases h'
         ·refine hG rest hs2 hm ht h1 (fun e fs' md td m t hm ht h'=>?_) β ρ a w hM hR hd
          intro β ρ a w hM hR hd
          cases e with
          | goto l'=>
           simp only [lq] at h'
           split at h'
           ·rename_i hl'
            split at h'
            ·rename_i x2 hg2
             cases h'
            ·cases h'
           ·cases h'
          | _=>
           simp only [lq] at h'
           split at h'
           ·rename_i y2 hg2
            cases h'
            exact exitCase hg2 hm ht hM hR hd
           ·cases h'
def ye (hD:D.gM.nq E P B E') (hq:E'.quiet=false) (hop:E'.opens=[]) (hbare:E'.bare=false) (hB:∀w,Below W.heap.size W w→B w) (hOb:∀g,W.heap.size≤g→Ob g) (H:FH) (c:Code):B5 P W ds Ob E' H.sch (IP P E' D H) c:=
 bN hD hq hop hbare hB hOb H (fun c=>bN hD hq hop hbare hB hOb H (fun c _ _ _ _ _ _ _ _ _ _ _ _ _ h _=>by cases h) c) c
def HY (hD:D.gM.nq E P B E') (hq:E'.quiet=false) (hop:E'.opens=[]) (hbare:E'.bare=false) (hBB:∀w w',B w→Below w.heap.size w w'→B w') {f:FuncId} {fn:Func} {c:Code} (hf:P.funcs[f]?=some fn) (hb:fn.body=some c) (H:FH) (hs:aR H.sch c=true) {ps rs:List Sh} :
  (bI.fG ⟨ps,rs,Tr P E' D H f ps rs⟩).Ok P B f:=by
 have hD0:=hD
 have hD:D.gM.nq E P B { E' with pre:=H.pre }:=⟨hD0.ok,hD0.zero,hD0.agg,hD0.str,hD0.keep,⟨hD0.eok.zero,hD0.eok.agg1,hD0.eok.aggN,hD0.eok.off,hD0.eok.row,hD0.eok.str,hD0.eok.strs,hD0.eok.ints,hD0.eok.size,hD0.eok.mixed,hD0.eok.row1,hD0.eok.meth,hD0.eok.arr⟩⟩
 intro O w x vs hw hpre hl
 have hpre:(Tr P E' D H f ps rs x).isSome=true:=hpre
 cases hF:Tr P E' D H f ps rs x with
 | none=>rw [hF] at hpre;cases hpre
 | some y=>
  have hFy:(bI.fG ⟨ps,rs,Tr P E' D H f ps rs⟩).F x=y:=by show (Tr P E' D H f ps rs x).getD _=y;rw [hF];rfl
  rw [hFy]
  unfold Tr at hF
  rw [hf] at hF
  simp only at hF
  rw [hb] at hF
  simp only at hF
  obtain ⟨gs,h1,h2⟩:=cn.got hl
  have hlen:=ya h1
  have hOb:∀g,w.heap.size≤g→(fun g=>w.heap.size≤g∨O g) g:=fun g h=>.inl h
  refine wF hD.eok hf hb gs (fun φ hφ g hg=>?_) (fun Q' hQ a hM hR hd=>?_)
  ·obtain ⟨a,ys,rfl,h3,h4⟩:=h2 φ hφ
   exact h3 g hg
  ·refine ye (Ob:=fun g=>w.heap.size≤g∨O g) (W:=w) (ds:=[]) hD hq hop hbare (fun w' hb=>hBB w w' hw hb) hOb H c hs (fs:=gs) (md:=⟨[],[]⟩) (Q':=Q') ⟨rfl,fun φ hφ g hg=>?_,rfl,fun b cs ty hb=>by simp at hb,rfl,fun i r hr=>by simp at hr⟩ ((mw h1).rts.app ?_) hF (fun e fs' md td m t hm ht hk=>hQ e m t ?_) [] [] a w hM hR hd
   ·obtain ⟨a,ys,rfl,h3,h4⟩:=h2 φ hφ
    exact .inr (h4 g hg)
   ·rw [hlen];exact wC _
   ·have fin:gA { E' with pre:=H.pre } D.sy fn.results.toList md td (fun us=>iE rs us)=some y→(gu { E' with pre:=H.pre } fn.results.toList m t (fun vs m=>.ret (YO vs) m)).aD P w none (fun e w'=>∃us,e=.returned (YO us)∧Below w.heap.size w w'∧cn (Ar w' fun g=>w.heap.size≤g∨O g) rs y us) []:=fun hk=>by
     refine jV (E':={ E' with pre:=H.pre,base:=E'.base }) hOb _ hm ht (mC (b:=E'.base) (kd:=fun us=>iE rs us=some y) hk fun _ h=>h) fun fs2 us vs md m hs2 hm hu hp β ρ w' hM=>?_
     obtain ⟨vs',e1,h5⟩:=jk hp hu.rts
     have e1:vs=vs':=by
      have:=congrArg (List.map fun t:T=>match t with | .v u=>u | _=>undef) e1
      simpa [List.map_map,Function.comp_def] using this
     subst e1
     refine ⟨vs,rfl,hM.below,cn.mono (fun a xs h=>?_) h5⟩
     rw [← hm.fe] at h
     refine ⟨kN hM a xs h,fun g hg=>?_⟩
     rcases h with rfl | ⟨φ,h1,h2,_⟩
     ·cases hg
     ·exact hm.ob φ (by rw [← hm.fe];exact h1) g (h2.trans hg)
    cases e with
    | normal=>exact fin hk
    | ret=>exact fin hk
    | _=>cases hk
end Go.Proofs.YtdbjakibneeeiaaGreatDoor.Sx
namespace Go.Proofs.YtdbjakibneeeiaaGreatDoor.Sx
open Go.RowKit
def eqv:T→Value→Bool
 | .v (.string a),.string b=>Ql a b
 | .v (.slice none 0 0),.slice none 0 0=>true
 | .v x,y=>QC x y
 | _,_=>false
def JA {t:T} {v:Value} (h:eqv t v=true):t=.v v:=by
 unfold eqv at h
 split at h
 ·rw [FO h]
 ·rfl
 ·rw [G9 h]
 ·cases h
def E7:List T→List Value→Bool
 | [],[]=>true
 | t::l,v::r=>eqv t v&&E7 l r
 | _,_=>false
def xo:∀{l:List T} {r:List Value},E7 l r=true→l=r.map T.v
 | [],[],_=>rfl
 | t::l,v::r,h=>by
  simp only [E7,Bool.and_eq_true] at h
  rw [List.map_cons,← JA h.1,← xo h.2]
 | [],_::_,h=>by cases h
 | _::_,[],h=>by cases h
def BJ (E:Env):List (TypeId×Sh)→Bool
 | []=>true
 | (e,s)::l=>(match lk E.zero e with
  | some cs=>E7 cs (eM s)
  | none=>true)&&(match lk E.str e with
  | some (cs,_)=>E7 cs (eM s)
  | none=>true)&&BJ E l
def tY {E:Env}:∀{l:List (TypeId×Sh)},BJ E l=true→∀e s,lk l e=some s→(∀cs,lk E.zero e=some cs→cs=(eM s).map T.v)∧∀cs places,lk E.str e=some (cs,places)→cs=(eM s).map T.v
 | [],_,e,s,h=>by cases h
 | (e0,s0)::l,hc,e,s,h=>by
  simp only [BJ,Bool.and_eq_true] at hc
  simp only [lk] at h
  cases hb:e0==e with
  | true=>
   rw [hb] at h
   have h:s0=s:=by simpa using h
   have hb:e0=e:=eq_of_beq hb
   subst h hb
   refine ⟨fun cs h1=>?_,fun cs pl h1=>?_⟩
   ·have:=hc.1.1;rw [h1] at this;exact xo this
   ·have:=hc.1.2;rw [h1] at this;exact xo this
  | false=>rw [hb] at h;exact tY hc.2 e s h
def KL (P:Program) (H:FH) (f:FuncId):Bool:=match P.funcs[f]? with
 | none=>false
 | some fn=>match fn.body with
  | none=>false
  | some c=>aP P f&&aR H.sch c
section
variable {P : Program} {B : World → Prop} {D : EE} {E E' : Env}
def EE.HA (hE:E'.Ok P) (hz:E'.zero=E.zero) (ha:E'.agg=E.agg) (hs:E'.str=E.str) (hk:E'.keep=true) {sy:List (TypeId×Sh)} (hc:BJ E sy=true) {fr:List (FuncId×Gz)} (hf:∀f S,(f,S)∈fr→aP P f=true∧S.fG.Ok P B f) {idc:List ((TypeId×TypeId)×Unit)} (hi:∀a b u,lk idc (a,b)=some u→∀v w,(convert a b v).run P w=.ok v w) (hmem:∀f S,lk fr f=some S→(f,S)∈fr) :
  (EE.gM ⟨sy,[],fr,idc⟩).nq E P B E':=by
 refine ⟨⟨fun f S h=>?_,fun f S h=>?_,fun e s cs h1 h2=>(tY hc e s h1).1 cs h2,fun e s cs pl h1 h2=>(tY hc e s h1).2 cs pl h2,hi⟩,hz,ha,hs,hk,hE⟩
 ·cases h
 ·have h:lk (Ao Gz.fG fr) f=some S:=h
  rw [rJ,Option.map_eq_some_iff] at h
  obtain ⟨S0,h1,rfl⟩:=h
  exact hf f S0 (hmem f S0 h1)
def EE.cP (hD:D.gM.nq E P B E') {f:FuncId} {S:bI} (hc:aP P f=true) (hS:S.fG.Ok P B f):(EE.gM { D with sm:=(f,S)::D.sm }).nq E P B E':=by
 refine ⟨⟨fun g S' h=>?_,hD.ok.fr,hD.ok.zero,hD.ok.str,hD.ok.idc⟩,hD.zero,hD.agg,hD.str,hD.keep,hD.eok⟩
 have h:lk ((f,S.fG)::Ao bI.fG D.sm) g=some S':=h
 simp only [lk] at h
 cases hb:f==g with
 | true=>
  rw [hb] at h
  have h:S.fG=S':=by simpa using h
  have hb:f=g:=eq_of_beq hb
  subst h hb
  exact ⟨hc,hS⟩
 | false=>rw [hb] at h;exact hD.ok.sm g S' h
def EE.Nh {D:DE} {E E':Env} {P:Program} {B:World→Prop} (hD:D.nq E P B E') (l:List TypeId):D.nq E P B { E' with soonM:=l }:=
 ⟨hD.ok,hD.zero,hD.agg,hD.str,hD.keep,⟨hD.eok.zero,hD.eok.agg1,hD.eok.aggN,hD.eok.off,hD.eok.row,hD.eok.str,hD.eok.strs,hD.eok.ints,hD.eok.size,hD.eok.mixed,hD.eok.row1,hD.eok.meth,hD.eok.arr⟩⟩
def EE.Sm {D:DE} {E E':Env} {P:Program} {B:World→Prop} (l:List TypeId) (hD:D.nq E P B { E' with soonM:=l }):D.nq E P B E':=
 ⟨hD.ok,hD.zero,hD.agg,hD.str,hD.keep,⟨hD.eok.zero,hD.eok.agg1,hD.eok.aggN,hD.eok.off,hD.eok.row,hD.eok.str,hD.eok.strs,hD.eok.ints,hD.eok.size,hD.eok.mixed,hD.eok.row1,hD.eok.meth,hD.eok.arr⟩⟩
def EE.xT (hD:D.gM.nq E P B E') (hq:(!E'.quiet&&E'.opens.isEmpty && !E'.bare)=true) (hBB:∀w w',B w→Below w.heap.size w w'→B w') {f:FuncId} {H:FH} (hc:KL P H f=true) {S:bI} {ps rs:List Sh} (hS:S=⟨ps,rs,Tr P E' D H f ps rs⟩):(EE.gM { D with sm:=(f,S)::D.sm }).nq E P B E':=by
 unfold KL at hc
 split at hc
 ·cases hc
 ·rename_i fn hf
  split at hc
  ·cases hc
  ·rename_i c hb
   rw [Bool.and_eq_true] at hc
   simp only [Bool.and_eq_true,Bool.not_eq_true',List.isEmpty_iff] at hq
   subst hS
   exact EE.cP hD hc.1 (HY hD hq.1.1 hq.1.2 hq.2 hBB hf hb H hc.2)
end
def p9:List Nat→Ord→Ord
 | [],r=>r
 | i::l,r=>.one i (p9 l r)
def EE.ad (t:EE) (f:FuncId) (s:bI):EE:={ t with sm:=(f,s)::t.sm }
end Go.Proofs.YtdbjakibneeeiaaGreatDoor.Sx
