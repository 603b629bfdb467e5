/- Leafs of the table: functions whose contracts are known otherwise, over plain data. -/
import Derived.Test.YtdbjakibneeeiaaGreatDoorKG26ExH
import Derived.Test.YtdbjakibneeeiaaGreatDoorKQueTop
import Derived.Test.YtdbjakibneeeiaaGreatDoorKTxnEnc
import Derived.Test.YtdbjakibneeeiaaGreatDoorKTxnTop
import Derived.Test.YtdbjakibneeeiaaGreatDoorKEvJ
import Derived.Test.YtdbjakibneeeiaaGreatDoorKGreedyAll
import Derived.KernelRfl
import Derived.Test.YtdbjakibneeeiaaGreatDoorKG27TkEnv
import Derived.Test.YtdbjakibneeeiaaGreatDoorKG3SxB
import Derived.Test.YtdbjakibneeeiaaGreatDoorKG20SxA
import Derived.Test.YtdbjakibneeeiaaGreatDoorKG18QueueOpen
set_option linter.all false
set_option maxHeartbeats 4000000
set_option maxRecDepth 100000
namespace Go.Proofs.YtdbjakibneeeiaaGreatDoor.Sx
open Go.RowKit
theorem Env.Ok.howE {E:Env} {P:Program} (hE:E.Ok P) (h:List (FuncId×How)):({ E with how:=h }:Env).Ok P:=⟨hE.zero,hE.agg1,hE.aggN,hE.off,hE.row,hE.str,hE.strs,hE.ints,hE.size,hE.mixed,hE.row1,hE.meth,hE.arr⟩
def cloneE (s:Sh) (e:TypeId) (size:Nat):EFr:=⟨[.row s],s,e,size,fun x=>bif decide (List.length (α:=Den s) x.1≤1000000) then some x.1 else none⟩
theorem cloneE_ok {P:Program} {B:World→Prop} {f:FuncId} {s:Sh} {e:TypeId} {size:Nat} (hs:s.size=size)
  (hc:∀(X:List Value) (a:Option Addr) (n c:Nat) (w:World),Sl a n c→X.length=n*size→(∀u∈X,u.oneCell'=true)→At w (pt a n) X→n≤1000000→Calls P f (List.toArray [.slice a n c]) w fun e' w'=>∃v,e'=.returned v∧Below w.heap.size w w'∧w'.ownsRow w.heap.size e size v n X) :
  (cloneE s e size).toS.Ok P B f:=by
 intro R w x vs hw hp hR hl
 obtain ⟨L,u⟩:=x
 obtain ⟨y,us,rfl,⟨a,n,c,xs,e1,h1,h2,h3,h4⟩,h5⟩:=hl
 have h5:us=[]:=h5
 have e1:y=.slice a n c:=by simpa using e1
 subst h5 e1
 have hp:(bif decide (List.length (α:=Den s) L≤1000000) then some L else none).isSome=true:=hp
 have h2:n=List.length (α:=Den s) L:=h2
 have h3:LieN (α:=Den s) (LieV R s) L xs:=h3
 cases hd:decide (List.length (α:=Den s) L≤1000000) with
 | false=>rw [hd] at hp;cases hp
 | true=>
  have hn:=of_decide_eq_true hd
  have hF:(cloneE s e size).toS.F (L,u)=L:=by
   show (bif decide (List.length (α:=Den s) L≤1000000) then some L else none).getD []=L
   rw [hd];rfl
  have hxl:=LieN.len (fun x vs=>LieV.len (s:=s)) h3
  refine (hc xs a n c w h1 (by rw [hxl,hs,h2]) (lieN_one h3) (hR _ _ h4) (by rw [h2];exact hn)).mono ?_
  rintro e' w' ⟨v,rfl,hb,ho⟩
  refine ⟨v,xs,rfl,hb,?_,?_⟩
  ·rw [hF]
   show w'.ownsRow w.heap.size e size v (List.length (α:=Den s) L) xs
   rw [← h2];exact ho
  ·rw [hF];exact h3
def isNilS:Value→Bool
 | .slice none 0 0=>true
 | _=>false
theorem isNilS_eq {z:Value} (h:isNilS z=true):z=.slice none 0 0:=by
 cases z with
 | slice a n c=>
  cases a with
  | some _=>cases h
  | none=>
   cases n with
   | succ _=>cases h
   | zero=>
    cases c with
    | succ _=>cases h
    | zero=>rfl
 | _=>cases h
def inMil (k:Int):Bool:=decide (0≤k)&&decide (k≤1000000)
theorem inMil_eq {k:Int} (h:inMil k=true):0≤k∧k≤((1000000:Nat):Int):=by
 obtain ⟨h7,h8⟩:=Bool.and_eq_true_iff.1 h
 exact ⟨of_decide_eq_true h7,of_decide_eq_true h8⟩
def growE (s:Sh) (e:TypeId) (size:Nat):EFr:=⟨[.num 9,.int],s,e,size,fun x=>bif isNilS x.1&&inMil x.2.1 then some [] else none⟩
theorem growE_ok {P:Program} {B:World→Prop} {f:FuncId} {s:Sh} {e:TypeId} {size:Nat}
  (hc:∀(k:Nat) (w:World),k≤1000000→Calls P f #[.slice none 0 0,.int .i64 k] w fun e' w'=>∃v,e'=.returned v∧Below w.heap.size w w'∧w'.ownsRow w.heap.size e size v 0 []) :
  (growE s e size).toS.Ok P B f:=by
 intro R w x vs hw hp hR hl
 obtain ⟨z,k,u⟩:=x
 obtain ⟨y,us,rfl,h1,y2,us2,rfl,h2,h3⟩:=hl
 have h1:y=z:=h1.1
 have h2:y2=.int .i64 k:=h2
 have h3:us2=[]:=h3
 subst h1 h2 h3
 have hp:(bif isNilS y&&inMil k then some ([]:List (Den s)) else none).isSome=true:=hp
 cases hd:(isNilS y&&inMil k) with
 | false=>rw [hd] at hp;cases hp
 | true=>
  have hF:(growE s e size).toS.F (y,k,u)=[]:=by
   show (bif isNilS y&&inMil k then some ([]:List (Den s)) else none).getD []=[]
   rw [hd];rfl
  obtain ⟨h5,h6⟩:=Bool.and_eq_true_iff.1 hd
  obtain ⟨h7,h8⟩:=inMil_eq (k:=k) h6
  have h5:=isNilS_eq h5
  subst h5
  obtain ⟨m,rfl⟩:=Int.eq_ofNat_of_zero_le h7
  refine (hc m w (Int.ofNat_le.1 h8)).mono ?_
  rintro e' w' ⟨v,rfl,hb,ho⟩
  refine ⟨v,[],rfl,hb,?_,?_⟩
  ·rw [hF];exact ho
  ·rw [hF];exact rfl
theorem leaf_ii {P:Program} {B:World→Prop} {f:FuncId} {F:Int→Int→Int} (hc:∀(s n:Int) (w:World),Calls P f #[.int .i64 s,.int .i64 n] w fun e w'=>e=.returned (.int .i64 (F s n))∧Below w.heap.size w w') :
  (ESm.toS ⟨[.int,.int],[.int],fun x=>some (F x.1 x.2.1,())⟩).Ok P B f:=by
 intro O w x vs hw hp hl
 obtain ⟨i,j,u⟩:=x
 obtain ⟨y,us,rfl,h1,y2,us2,rfl,h2,h3⟩:=hl
 have h1:y=.int .i64 i:=h1
 have h2:y2=.int .i64 j:=h2
 have h3:us2=[]:=h3
 subst h1 h2 h3
 refine (hc i j w).mono ?_
 rintro e w' ⟨rfl,hb⟩
 exact ⟨[_],rfl,hb,_,_,rfl,rfl,rfl⟩
theorem leaf_is {P:Program} {B:World→Prop} {f:FuncId} {F:Int→Option ByteArray} (hc:∀(s:Int) (w:World) (z:ByteArray),F s=some z→Calls P f #[.int .i64 s] w fun e w'=>e=.returned (.string z)∧Below w.heap.size w w') :
  (ESm.toS ⟨[.int],[.str],fun x=>(F x.1).map fun z=>(z,())⟩).Ok P B f:=by
 intro O w x vs hw hp hl
 obtain ⟨i,u⟩:=x
 obtain ⟨y,us,rfl,h1,h3⟩:=hl
 have h1:y=.int .i64 i:=h1
 have h3:us=[]:=h3
 subst h1 h3
 cases hF:F i with
 | none=>
  have hp:((F i).map fun z=>((z,()):ByteArray×Unit)).isSome=true:=hp
  rw [hF] at hp;cases hp
 | some z=>
  refine (hc i w z hF).mono ?_
  rintro e w' ⟨rfl,hb⟩
  refine ⟨[_],rfl,hb,_,_,rfl,?_,rfl⟩
  show Value.string z=.string ((((F i).map fun z=>((z,()):ByteArray×Unit)).getD (ByteArray.empty,())).1)
  rw [hF];rfl
theorem leaf_ss {P:Program} {B:World→Prop} {f:FuncId} {F:ByteArray→Option ByteArray} (hc:∀(s:ByteArray) (w:World) (z:ByteArray),F s=some z→Calls P f #[.string s] w fun e w'=>e=.returned (.string z)∧Below w.heap.size w w') :
  (ESm.toS ⟨[.str],[.str],fun x=>(F x.1).map fun z=>(z,())⟩).Ok P B f:=by
 intro O w x vs hw hp hl
 obtain ⟨i,u⟩:=x
 obtain ⟨y,us,rfl,h1,h3⟩:=hl
 have h1:y=.string i:=h1
 have h3:us=[]:=h3
 subst h1 h3
 cases hF:F i with
 | none=>
  have hp:((F i).map fun z=>((z,()):ByteArray×Unit)).isSome=true:=hp
  rw [hF] at hp;cases hp
 | some z=>
  refine (hc i w z hF).mono ?_
  rintro e w' ⟨rfl,hb⟩
  refine ⟨[_],rfl,hb,_,_,rfl,?_,rfl⟩
  show Value.string z=.string ((((F i).map fun z=>((z,()):ByteArray×Unit)).getD (ByteArray.empty,())).1)
  rw [hF];rfl
abbrev TxSh:Sh:=.flat [.int,.int,.int,.int,.int,.str]
theorem leaf_txb {P:Program} {B:World→Prop} {f:FuncId} {F:Int→Int→Int→Int→Int→ByteArray→Bool} (hc:∀(s n t c g:Int) (d:ByteArray) (w:World),B w→Calls P f #[.agg #[.int .i64 s,.int .i64 n,.int .i64 t,.int .i64 c,.int .i64 g,.string d]] w fun e w'=>e=.returned (.bool (F s n t c g d))∧Below w.heap.size w w') :
  (ESm.toS ⟨[TxSh],[.bool],fun x=>some (F x.1.1 x.1.2.1 x.1.2.2.1 x.1.2.2.2.1 x.1.2.2.2.2.1 x.1.2.2.2.2.2.1,())⟩).Ok P B f:=by
 intro O w x vs hw hp hl
 obtain ⟨⟨s,n,t,c,g,d,u⟩,u2⟩:=x
 obtain ⟨y,us,rfl,⟨cs,rfl,k⟩,h3⟩:=hl
 have h3:us=[]:=h3
 obtain ⟨v1,q1,rfl,k1,v2,q2,rfl,k2,v3,q3,rfl,k3,v4,q4,rfl,k4,v5,q5,rfl,k5,v6,q6,rfl,k6,k7⟩:=k
 have k1:v1=[.int .i64 s]:=k1
 have k2:v2=[.int .i64 n]:=k2
 have k3:v3=[.int .i64 t]:=k3
 have k4:v4=[.int .i64 c]:=k4
 have k5:v5=[.int .i64 g]:=k5
 have k6:v6=[.string d]:=k6
 have k7:q6=[]:=k7
 subst h3 k1 k2 k3 k4 k5 k6 k7
 refine (hc s n t c g d w hw).mono ?_
 rintro e w' ⟨rfl,hb⟩
 exact ⟨[_],rfl,hb,_,_,rfl,rfl,rfl⟩
end Go.Proofs.YtdbjakibneeeiaaGreatDoor.Sx
namespace Go.Proofs.YtdbjakibneeeiaaGreatDoor.queue
open Go.RowKit Sx txn
def txOf (x:Den TxSh):Tx:=⟨x.1,x.2.1,x.2.2.1,x.2.2.2.1,x.2.2.2.2.1,x.2.2.2.2.2.1⟩
def toTx (t:Tx):Den TxSh:=(t.s,t.n,t.t,t.c,t.g,t.d,())
abbrev AccSh:Sh:=.flat [.int,.int,.row TxSh]
theorem txIn {R:Option Addr→List Value→Prop} {x:Den TxSh} {xs:List Value} (h:LieV R TxSh x xs):xs=[.int .i64 (txOf x).s,.int .i64 (txOf x).n,.int .i64 (txOf x).t,.int .i64 (txOf x).c,.int .i64 (txOf x).g,.string (txOf x).d]:=by
 obtain ⟨s,n,t,c,g,d,u⟩:=x
 obtain ⟨v1,q1,rfl,k1,v2,q2,rfl,k2,v3,q3,rfl,k3,v4,q4,rfl,k4,v5,q5,rfl,k5,v6,q6,rfl,k6,k7⟩:=h
 have k1:v1=[.int .i64 s]:=k1
 have k2:v2=[.int .i64 n]:=k2
 have k3:v3=[.int .i64 t]:=k3
 have k4:v4=[.int .i64 c]:=k4
 have k5:v5=[.int .i64 g]:=k5
 have k6:v6=[.string d]:=k6
 have k7:q6=[]:=k7
 subst k1 k2 k3 k4 k5 k6 k7
 rfl
theorem txIn' {R:Option Addr→List Value→Prop} {x:Den TxSh} {y:Value} (h:LieT R TxSh x y):y=(txOf x).val:=by
 obtain ⟨cs,rfl,k⟩:=h
 rw [txIn k];rfl
theorem txOutV {R:Option Addr→List Value→Prop} (t:Tx):LieV R TxSh (toTx t) [.int .i64 t.s,.int .i64 t.n,.int .i64 t.t,.int .i64 t.c,.int .i64 t.g,.string t.d]:=
 ⟨[.int .i64 t.s],_,rfl,rfl,[.int .i64 t.n],_,rfl,rfl,[.int .i64 t.t],_,rfl,rfl,[.int .i64 t.c],_,rfl,rfl,[.int .i64 t.g],_,rfl,rfl,[.string t.d],[],rfl,rfl,rfl⟩
theorem txOut {R:Option Addr→List Value→Prop} (t:Tx):LieT R TxSh (toTx t) t.val:=⟨_,rfl,txOutV t⟩
theorem txsIn {R:Option Addr→List Value→Prop}:∀{L:List (Den TxSh)} {xs:List Value},LieN (LieV R TxSh) L xs→xs=cellsL (L.map txOf)
 | [],xs,h=>by have h:xs=[]:=h;rw [h];rfl
 | x::L,xs,⟨v1,v2,e,h1,h2⟩=>by rw [e,txIn h1,txsIn h2];rfl
theorem txsOut {R:Option Addr→List Value→Prop}:∀l:List Tx,LieN (LieV R TxSh) (l.map toTx) (cellsL l)
 | []=>rfl
 | t::l=>⟨_,_,rfl,txOutV t,txsOut l⟩
theorem accIn {R:Option Addr→List Value→Prop} {s b:Int} {L:List (Den TxSh)} {u:Unit} {y:Value} (h:LieT R AccSh (s,b,L,u) y):∃a n c,y=acc s b a n c∧Sl a n c∧n=(L.map txOf).length∧R (pt a n) (cellsL (L.map txOf)):=by
 obtain ⟨cs,rfl,v1,q1,rfl,k1,v2,q2,rfl,k2,v3,q3,rfl,⟨a,n,c,xs,e1,hs,hn,hx,hr⟩,k7⟩:=h
 have k1:v1=[.int .i64 s]:=k1
 have k2:v2=[.int .i64 b]:=k2
 have k7:q3=[]:=k7
 subst k1 k2 k7 e1
 have hx:LieN (α:=Den TxSh) (LieV R TxSh) L xs:=hx
 have:=txsIn hx
 subst this
 have hn:n=List.length (α:=Den TxSh) L:=hn
 exact ⟨a,n,c,rfl,hs,by rw [List.length_map];exact hn,hr⟩
theorem accOut {w w':World} {O:Nat→Prop} {s b:Int} {l:List Tx} {a:Option Addr} {c:Nat} (hs:Sl a l.length c) (h:∀g,(rowF (pt a l.length) (cellsL l)).g=some g→w.heap.size≤g∧∃o,w'.heap[g]?=some o∧(rowF (pt a l.length) (cellsL l)).holds o) :
  LieT (AtO w' fun g=>w.heap.size≤g∨O g) AccSh (s,b,l.map toTx,()) (acc s b a l.length c):=
 ⟨[.int .i64 s,.int .i64 b,.slice a l.length c],rfl,[.int .i64 s],_,rfl,rfl,[.int .i64 b],_,rfl,rfl,[.slice a l.length c],[],rfl,⟨a,_,c,cellsL l,rfl,hs,(List.length_map (f:=toTx)).symm,txsOut l,fun g hg=>(h g hg).2,fun g hg=>.inl (h g hg).1⟩,rfl⟩
def findE:ESm:=⟨[AccSh,.int],[TxSh,.bool],fun x=>some (toTx (findV (List.map (α:=Den TxSh) txOf x.1.2.2.1) x.2.1).1,(findV (List.map (α:=Den TxSh) txOf x.1.2.2.1) x.2.1).2,())⟩
theorem findE_ok (B:World→Prop):findE.toS.Ok Tryz.prog B 139:=by
 intro O w x vs hw hp hl
 obtain ⟨⟨s,b,L,u⟩,v,u2⟩:=x
 obtain ⟨y,us,rfl,h1,y2,us2,rfl,h2,h3⟩:=hl
 have h2:y2=.int .i64 v:=h2
 have h3:us2=[]:=h3
 obtain ⟨a,n,c,rfl,hs,hn,hr⟩:=accIn h1
 subst h2 h3
 refine (find s b (List.map (α:=Den TxSh) txOf L) a n c v w hs hn hr.1).mono ?_
 rintro e w' ⟨rfl,hb⟩
 exact ⟨[_,_],rfl,hb,_,_,rfl,txOut _,_,_,rfl,rfl,rfl⟩
def few (L:List (Den TxSh)):Bool:=decide (L.length≤100000)
theorem few_len {L:List (Den TxSh)} (h:few L=true):(L.map txOf).length≤100000:=by
 have h:decide (L.length≤100000)=true:=h
 rw [List.length_map];exact of_decide_eq_true h
def putE:ESm:=⟨[AccSh,TxSh],[AccSh],fun x=>bif few x.1.2.2.1 then some ((x.1.1,x.1.2.1,(putV (txOf x.2.1) (List.map (α:=Den TxSh) txOf x.1.2.2.1)).map toTx,()),()) else none⟩
theorem putE_ok (B:World→Prop):putE.toS.Ok Tryz.prog B 141:=by
 intro O w x vs hw hp hl
 obtain ⟨⟨s,b,L,u⟩,t,u2⟩:=x
 obtain ⟨y,us,rfl,h1,y2,us2,rfl,h2,h3⟩:=hl
 have h2:=txIn' h2
 have h3:us2=[]:=h3
 obtain ⟨a,n,c,rfl,hs,hn,hr⟩:=accIn h1
 subst h2 h3
 have hp:(bif few L then some (((s,b,(putV (txOf t) (List.map (α:=Den TxSh) txOf L)).map toTx,()),()):DenL [AccSh]) else none).isSome=true:=hp
 cases hf:few L with
 | false=>rw [hf] at hp;cases hp
 | true=>
  refine (put s b (List.map (α:=Den TxSh) txOf L) a n c (txOf t) w hs hn hr.1 (few_len hf)).mono ?_
  rintro e w' ⟨i,hs2,rfl,hb,hg⟩
  refine ⟨[_],rfl,hb,_,_,rfl,?_,rfl⟩
  have hF:putE.toS.F ((s,b,L,u),t,u2)=((s,b,(putV (txOf t) (List.map (α:=Den TxSh) txOf L)).map toTx,()),()):=by
   show (bif few L then some (((s,b,(putV (txOf t) (List.map (α:=Den TxSh) txOf L)).map toTx,()),()):DenL [AccSh]) else none).getD _=_
   rw [hf];rfl
  rw [hF]
  exact accOut hs2 (hg _ (.head _))
def dropE:ESm:=⟨[AccSh,.int],[AccSh],fun x=>bif few x.1.2.2.1 then some ((x.1.1,x.1.2.1,(dropV x.2.1 (List.map (α:=Den TxSh) txOf x.1.2.2.1)).map toTx,()),()) else none⟩
theorem dropE_ok (B:World→Prop):dropE.toS.Ok Tryz.prog B 172:=by
 intro O w x vs hw hp hl
 obtain ⟨⟨s,b,L,u⟩,v,u2⟩:=x
 obtain ⟨y,us,rfl,h1,y2,us2,rfl,h2,h3⟩:=hl
 have h2:y2=.int .i64 v:=h2
 have h3:us2=[]:=h3
 obtain ⟨a,n,c,rfl,hs,hn,hr⟩:=accIn h1
 subst h2 h3
 have hp:(bif few L then some (((s,b,(dropV v (List.map (α:=Den TxSh) txOf L)).map toTx,()),()):DenL [AccSh]) else none).isSome=true:=hp
 cases hf:few L with
 | false=>rw [hf] at hp;cases hp
 | true=>
  refine (drop s b (List.map (α:=Den TxSh) txOf L) a n c v w hs hn hr.1 (Nat.le_trans (few_len hf) (by omega))).mono ?_
  rintro e w' ⟨i,hs2,rfl,hb,hg⟩
  refine ⟨[_],rfl,hb,_,_,rfl,?_,rfl⟩
  have hF:dropE.toS.F ((s,b,L,u),v,u2)=((s,b,(dropV v (List.map (α:=Den TxSh) txOf L)).map toTx,()),()):=by
   show (bif few L then some (((s,b,(dropV v (List.map (α:=Den TxSh) txOf L)).map toTx,()),()):DenL [AccSh]) else none).getD _=_
   rw [hf];rfl
  rw [hF]
  exact accOut hs2 (hg _ (.head _))
end Go.Proofs.YtdbjakibneeeiaaGreatDoor.queue
namespace Go.Proofs.YtdbjakibneeeiaaGreatDoor.queue
open Go.RowKit Sx txn
def encE:ESm:=⟨[TxSh],[.str,.bool],fun x=>bif decide ((txOf x.1).d.size≤maxLen) then some (⟨(encV (txOf x.1)).toArray⟩,(txOf x.1).ok,()) else none⟩
theorem encE_ok:encE.toS.Ok Tryz.prog Most 202:=by
 intro O w x vs hw hp hl
 obtain ⟨t,u⟩:=x
 obtain ⟨y,us,rfl,h1,h3⟩:=hl
 have h1:=txIn' h1
 have h3:us=[]:=h3
 subst h1 h3
 have hp:(bif decide ((txOf t).d.size≤maxLen) then some ((⟨(encV (txOf t)).toArray⟩,(txOf t).ok,()):DenL [.str,.bool]) else none).isSome=true:=hp
 cases hd:decide ((txOf t).d.size≤maxLen) with
 | false=>rw [hd] at hp;cases hp
 | true=>
  have hF:encE.toS.F (t,u)=(⟨(encV (txOf t)).toArray⟩,(txOf t).ok,()):=by
   show (bif decide ((txOf t).d.size≤maxLen) then some ((⟨(encV (txOf t)).toArray⟩,(txOf t).ok,()):DenL [.str,.bool]) else none).getD _=_
   rw [hd];rfl
  refine (encode (txOf t) w hw (of_decide_eq_true hd)).mono ?_
  rintro e w' ⟨rfl,hb⟩
  refine ⟨[_,_],rfl,hb,?_⟩
  rw [hF]
  exact ⟨_,_,rfl,rfl,_,_,rfl,rfl,rfl⟩
def decF (s:ByteArray):DenL [TxSh,.bool]:=match dec s.data.toList with
 | none=>(toTx Tx.zero,false,())
 | some t=>(toTx t,true,())
def decE:ESm:=⟨[.str],[TxSh,.bool],fun x=>bif decide (ByteArray.size x.1≤maxLen) then some (decF x.1) else none⟩
theorem decE_ok:decE.toS.Ok Tryz.prog Most 135:=by
 intro O w x vs hw hp hl
 obtain ⟨s,u⟩:=x
 obtain ⟨y,us,rfl,h1,h3⟩:=hl
 have h1:y=.string s:=h1
 have h3:us=[]:=h3
 subst h1 h3
 have hp:(bif decide (ByteArray.size s≤maxLen) then some (decF s) else none).isSome=true:=hp
 cases hd:decide (ByteArray.size s≤maxLen) with
 | false=>rw [hd] at hp;cases hp
 | true=>
  have hF:decE.toS.F (s,u)=decF s:=by
   show (bif decide (ByteArray.size s≤maxLen) then some (decF s) else none).getD _=_
   rw [hd];rfl
  refine (decode_any s w hw (of_decide_eq_true hd)).mono ?_
  rintro e w' ⟨rfl,hb⟩
  rw [hF]
  unfold decF
  cases dec (ByteArray.data s).toList with
  | none=>exact ⟨[_,_],rfl,hb,_,_,rfl,txOut _,_,_,rfl,rfl,rfl⟩
  | some t=>exact ⟨[_,_],rfl,hb,_,_,rfl,txOut _,_,_,rfl,rfl,rfl⟩
end Go.Proofs.YtdbjakibneeeiaaGreatDoor.queue
namespace Go.Proofs.YtdbjakibneeeiaaGreatDoor.shard
open Go.RowKit Sx txn queue greedy
abbrev AccsSh:Sh:=.row AccSh
abbrev ShdSh:Sh:=.flat [.row AccSh,.int]
def accOf (x:Den AccSh):PA:=(x.1,x.2.1,List.map (α:=Den TxSh) txOf x.2.2.1)
def toAcc (p:PA):Den AccSh:=(p.1,p.2.1,p.2.2.map toTx,())
def okT (t:Den TxSh):Bool:=decide ((txOf t).d.size≤maxLen)
def okA (x:Den AccSh):Bool:=decide (List.length (α:=Den TxSh) x.2.2.1≤1000000)&&List.all (α:=Den TxSh) x.2.2.1 okT
theorem acc_in {R:Option Addr→List Value→Prop} {x:Den AccSh} {xs:List Value} (h:LieV R AccSh x xs) (ho:okA x=true):∃q:Ac,xs=q.cs∧acP q=accOf x∧q.fit∧R (pt q.a q.n) (cellsL q.l):=by
 obtain ⟨s,b,L,u⟩:=x
 obtain ⟨a,n,c,e,hs,hn,hr⟩:=accIn (y:=.agg xs.toArray) ⟨xs,rfl,h⟩
 have e:xs=[.int .i64 s,.int .i64 b,.slice a n c]:=by
  have:=congrArg (fun v=>match v with | Value.agg l=>l.toList | _=>[]) e
  simpa [acc] using this
 have ho:(decide (List.length (α:=Den TxSh) L≤1000000)&&List.all (α:=Den TxSh) L okT)=true:=ho
 obtain ⟨h1,h2⟩:=Bool.and_eq_true_iff.1 ho
 refine ⟨⟨s,b,a,n,c,List.map (α:=Den TxSh) txOf L⟩,e,rfl,⟨hs,hn,?_,?_⟩,hr⟩
 ·exact Nat.le_trans (Nat.le_of_eq (List.length_map (α:=Den TxSh) txOf)) (of_decide_eq_true h1)
 ·intro t ht
  obtain ⟨y,hy,rfl⟩:=List.mem_map.1 ht
  exact of_decide_eq_true ((List.all_eq_true.1 h2) y hy)
theorem accs_in {R:Option Addr→List Value→Prop}:∀{L:List (Den AccSh)} {xs:List Value},LieN (LieV R AccSh) L xs→L.all okA=true→∃La:List Ac,xs=cellsA La∧La.map acP=L.map accOf∧∀q∈La,q.fit∧R (pt q.a q.n) (cellsL q.l)
 | [],xs,h,_=>⟨[],h,rfl,by simp⟩
 | x::L,xs,⟨v1,v2,e,h1,h2⟩,ho=>by
  rw [List.all_cons,Bool.and_eq_true] at ho
  obtain ⟨q,e1,e2,e3,e4⟩:=acc_in h1 ho.1
  obtain ⟨La,k1,k2,k3⟩:=accs_in h2 ho.2
  refine ⟨q::La,by rw [e,e1,k1];rfl,by rw [List.map_cons,List.map_cons,e2,k2],fun z hz=>?_⟩
  rcases List.mem_cons.1 hz with rfl | hz
  ·exact ⟨e3,e4⟩
  ·exact k3 z hz
theorem acs_in {w:World} {O:Nat→Prop} {L:List (Den AccSh)} {y:Value} (h:LieT (AtO w O) AccsSh L y) (ho:L.all okA=true):∃a n c La,y=.slice a n c∧Acs w a n c La∧La.map acP=L.map accOf:=by
 obtain ⟨a,n,c,xs,e,hs,hn,hx,hr⟩:=h
 have e:y=.slice a n c:=by simpa using e
 obtain ⟨La,rfl,h2,h3⟩:=accs_in (L:=L) hx ho
 have hn:n=La.length:=by
  have hl:=congrArg List.length h2
  rw [List.length_map,List.length_map] at hl
  rw [hl];exact hn
 exact ⟨a,n,c,La,e,⟨hs,hn,hr.1,fun x hx=>⟨(h3 x hx).1,(h3 x hx).2.1⟩⟩,h2⟩
theorem accs_out {R:Option Addr→List Value→Prop}:∀{La:List Ac},(∀q∈La,q.fit∧R (pt q.a q.n) (cellsL q.l))→LieN (LieV R AccSh) ((La.map acP).map toAcc) (cellsA La)
 | [],_=>rfl
 | q::La,h=>by
  obtain ⟨⟨hs,hn,_,_⟩,hr⟩:=h q List.mem_cons_self
  refine ⟨q.cs,cellsA La,rfl,?_,accs_out fun z hz=>h z (List.mem_cons_of_mem _ hz)⟩
  exact ⟨[.int .i64 q.s],[.int .i64 q.b,.slice q.a q.n q.c],rfl,rfl,[.int .i64 q.b],[.slice q.a q.n q.c],rfl,rfl,[.slice q.a q.n q.c],[],rfl,⟨q.a,q.n,q.c,cellsL q.l,rfl,hs,by rw [hn];exact (List.length_map (f:=toTx)).symm,txsOut q.l,hr⟩,rfl⟩
theorem acs_out {w w':World} {O:Nat→Prop} {La:List Ac} {a:Option Addr} {c:Nat} (hs:Sl a La.length c) (hf:∀q∈La,q.fit) (h:∀φ∈acsF a La.length La,∀g,φ.g=some g→w.heap.size≤g∧∃o,w'.heap[g]?=some o∧φ.holds o) :
  LieT (AtO w' fun g=>w.heap.size≤g∨O g) AccsSh ((La.map acP).map toAcc) (.slice a La.length c):=
 ⟨a,_,c,cellsA La,rfl,hs,(by show La.length=((La.map acP).map toAcc).length;simp),accs_out fun q hq=>⟨hf q hq,fun g hg=>(h _ (List.mem_cons_of_mem _ (List.mem_map_of_mem hq)) g hg).2,fun g hg=>.inl (h _ (List.mem_cons_of_mem _ (List.mem_map_of_mem hq)) g hg).1⟩,fun g hg=>(h _ (.head _) g hg).2,fun g hg=>.inl (h _ (.head _) g hg).1⟩
def getEs:ESm:=⟨[ShdSh,.int],[AccSh],fun x=>bif decide (List.length (α:=Den AccSh) x.1.1≤100000)&&List.all (α:=Den AccSh) x.1.1 okA then some (toAcc (getP (List.map (α:=Den AccSh) accOf x.1.1) x.2.1),()) else none⟩
theorem getEs_ok (B:World→Prop):getEs.toS.Ok Tryz.prog B 136:=by
 intro O w x vs hw hp hl
 obtain ⟨⟨L,v,u⟩,k,u2⟩:=x
 obtain ⟨y,us,rfl,⟨cs,rfl,v1,v2,rfl,h1,v3,v4,rfl,h2,h3⟩,y2,us2,rfl,h4,h5⟩:=hl
 have h2:v3=[.int .i64 v]:=h2
 have h3:v4=[]:=h3
 have h4:y2=.int .i64 k:=h4
 have h5:us2=[]:=h5
 subst h2 h3 h4 h5
 have hp:(bif decide (List.length (α:=Den AccSh) L≤100000)&&List.all (α:=Den AccSh) L okA then some ((toAcc (getP (List.map (α:=Den AccSh) accOf L) k),()):DenL [AccSh]) else none).isSome=true:=hp
 cases hd:(decide (List.length (α:=Den AccSh) L≤100000)&&List.all (α:=Den AccSh) L okA) with
 | false=>rw [hd] at hp;cases hp
 | true=>
  have hF:getEs.toS.F ((L,v,u),k,u2)=(toAcc (getP (List.map (α:=Den AccSh) accOf L) k),()):=by
   show (bif decide (List.length (α:=Den AccSh) L≤100000)&&List.all (α:=Den AccSh) L okA then some ((toAcc (getP (List.map (α:=Den AccSh) accOf L) k),()):DenL [AccSh]) else none).getD _=_
   rw [hd];rfl
  obtain ⟨d1,d2⟩:=Bool.and_eq_true_iff.1 hd
  obtain ⟨a,n,c,xs,rfl,q1⟩:=h1
  obtain ⟨a',n',c',La,e,hA,hm⟩:=acs_in (L:=L) (y:=.slice a n c) ⟨a,n,c,xs,rfl,q1⟩ d2
  cases e
  have hn:n≤1000000:=by
   have h1:=hA.2.1
   have hl:=congrArg List.length hm
   have hl2:(List.map (α:=Den AccSh) accOf L).length=List.length (α:=Den AccSh) L:=List.length_map _
   rw [List.length_map,hl2] at hl
   have:=of_decide_eq_true d1
   omega
  refine (get v La a n c k w hA hn).mono ?_
  rintro e w' ⟨i,hs2,rfl,hb,hg⟩
  refine ⟨[_],rfl,hb,_,_,rfl,?_,rfl⟩
  rw [hF,← hm]
  exact accOut hs2 (hg _ (.head _))
def allD:List (Den ShdSh)→List (Den AccSh)
 | []=>[]
 | x::S=>List.append (α:=Den AccSh) x.1 (allD S)
theorem allD_cons (x:Den ShdSh) (S:List (Den ShdSh)):allD (x::S)=(show List (Den AccSh) from x.1)++allD S:=rfl
theorem shd_in {w:World} {O:Nat→Prop} {x:Den ShdSh} {xs:List Value} (h:LieV (AtO w O) ShdSh x xs) (ho:List.all (α:=Den AccSh) x.1 okA=true):∃q:Shd,xs=q.cs∧Acs w q.a q.n q.c q.L∧q.L.map acP=List.map (α:=Den AccSh) accOf x.1:=by
 obtain ⟨L,v,u⟩:=x
 obtain ⟨v1,v2,rfl,⟨a,n,c,zs,rfl,q⟩,v3,v4,rfl,h2,h3⟩:=h
 have h2:v3=[.int .i64 v]:=h2
 have h3:v4=[]:=h3
 subst h2 h3
 obtain ⟨a',n',c',La,e,hA,hm⟩:=acs_in (L:=L) (y:=.slice a n c) ⟨a,n,c,zs,rfl,q⟩ ho
 cases e
 exact ⟨⟨a,n,c,La,v⟩,rfl,hA,hm⟩
theorem shds_in {w:World} {O:Nat→Prop}:∀{S:List (Den ShdSh)} {xs:List Value},LieN (LieV (AtO w O) ShdSh) S xs→(allD S).all okA=true→∃Sd:List Shd,xs=cellsS Sd∧Sd.length=S.length∧(∀q∈Sd,Acs w q.a q.n q.c q.L)∧(allS Sd).map acP=(allD S).map accOf
 | [],xs,h,_=>⟨[],h,rfl,by simp,rfl⟩
 | x::S,xs,⟨v1,v2,e,h1,h2⟩,ho=>by
  rw [allD_cons,List.all_append,Bool.and_eq_true] at ho
  obtain ⟨q,e1,e2,e3⟩:=shd_in h1 ho.1
  obtain ⟨Sd,k1,k2,k3,k4⟩:=shds_in h2 ho.2
  refine ⟨q::Sd,by rw [e,e1,k1];rfl,by simp [k2],fun z hz=>?_,?_⟩
  ·rcases List.mem_cons.1 hz with rfl | hz
   ·exact e2
   ·exact k3 z hz
  ·unfold allS at *
   rw [List.flatMap_cons,allD_cons,List.map_append,List.map_append,e3,k4]
def okJ (S:List (Den ShdSh)):Bool:=decide (S.length≤100000)&&(decide ((allD S).length≤100000)&&((allD S).all okA&&(allD S).all fun x=>inI x.1))
def joinP (S:List (Den ShdSh)):List PA:=srt (fun p:PA=>p.1) ((allD S).map accOf)
def joinEs:ESm:=⟨[.row ShdSh],[AccsSh],fun x=>bif okJ x.1 then some ((joinP x.1).map toAcc,()) else none⟩
theorem joinEs_ok (B:World→Prop):joinEs.toS.Ok Tryz.prog B 153:=by
 intro O w x vs hw hp hl
 obtain ⟨S,u⟩:=x
 obtain ⟨y,us,rfl,⟨a,n,c,xs,e,hs,hn,hx,hr⟩,h5⟩:=hl
 have h5:us=[]:=h5
 have e:y=.slice a n c:=by simpa using e
 subst h5 e
 have hp:(bif okJ S then some (((joinP S).map toAcc,()):DenL [AccsSh]) else none).isSome=true:=hp
 cases hd:okJ S with
 | false=>rw [hd] at hp;cases hp
 | true=>
  have hF:joinEs.toS.F (S,u)=((joinP S).map toAcc,()):=by
   show (bif okJ S then some (((joinP S).map toAcc,()):DenL [AccsSh]) else none).getD _=_
   rw [hd];rfl
  unfold okJ at hd
  simp only [Bool.and_eq_true,decide_eq_true_eq] at hd
  obtain ⟨d1,d2,d3,d4⟩:=hd
  obtain ⟨Sd,rfl,k2,k3,k4⟩:=shds_in (S:=S) hx d3
  have hl:=congrArg List.length k4
  rw [List.length_map,List.length_map] at hl
  have hn:n=S.length:=hn
  refine (join Sd a n c w ⟨hs,by rw [hn,k2],hr.1,k3⟩ (by omega) (by omega) (fun x hx=>?_)).mono ?_
  ·have:acP x∈(allD S).map accOf:=by rw [← k4];exact List.mem_map_of_mem hx
   obtain ⟨z,hz,e⟩:=List.mem_map.1 this
   have h1:=(List.all_eq_true.1 d4) z hz
   have e:z.1=x.s:=congrArg (fun p:PA=>p.1) e
   have h1:inI z.1=true:=h1
   rw [e] at h1
   have:=inI_iff.1 h1
   exact ⟨this.1,by omega⟩
  ·rintro e w' ⟨i,Ls,hm,hf,hs2,rfl,hb,hg⟩
   refine ⟨[_],rfl,hb,_,_,rfl,?_,rfl⟩
   rw [hF]
   have e1:joinP S=Ls.map acP:=by
    rw [hm,srt_map (fun x:Ac=>x.s) (fun p:PA=>p.1) acP (fun _=>rfl),k4];rfl
   rw [e1]
   exact acs_out hs2 hf hg
def frP (l:List PA) (x:PA):List PA:=if l.any (fun y=>y.1==x.1) then l else l++[x]
def firstsP (P:List PA):List PA:=P.foldl frP []
theorem firsts_P (L:List Ac):∀l:List Ac,(L.foldl frS l).map acP=(L.map acP).foldl frP (l.map acP):=by
 induction L with
 | nil=>intro l;rfl
 | cons x L ih=>
  intro l
  rw [List.foldl_cons,ih,List.map_cons,List.foldl_cons]
  congr 1
  unfold frS frP
  have:(l.map acP).any (fun y=>y.1==(acP x).1)=l.any fun y=>y.s==x.s:=by rw [List.any_map];rfl
  rw [this]
  split
  ·rfl
  ·rw [List.map_append];rfl
def templateP (P:List PA) (gas:Int):List Tx:=tplV ((firstsP P).map fun p=>lineV p.2.1 p.2.2) gas
theorem template_P (L:List Ac) (gas:Int):templateV L gas=templateP (L.map acP) gas:=by
 unfold templateV templateP firstsP firstsV
 rw [show ([]:List PA)=([]:List Ac).map acP from rfl,← firsts_P,List.map_map]
 rfl
def okTp (L:List (Den AccSh)) (g:Int):Bool:=decide (L.length≤1000000)&&(L.all okA&&(inI g&&decide ((templateP (L.map accOf) g).length≤1000000)))
def templateEs:ESm:=⟨[AccsSh,.int],[.row TxSh],fun x=>bif okTp x.1 x.2.1 then some ((templateP (List.map (α:=Den AccSh) accOf x.1) x.2.1).map toTx,()) else none⟩
theorem templateEs_ok:templateEs.toS.Ok Tryz.prog Most 145:=by
 intro O w x vs hw hp hl
 obtain ⟨L,g,u⟩:=x
 obtain ⟨y,us,rfl,h1,y2,us2,rfl,h4,h5⟩:=hl
 have h4:y2=.int .i64 g:=h4
 have h5:us2=[]:=h5
 subst h4 h5
 have hp:(bif okTp L g then some (((templateP (List.map (α:=Den AccSh) accOf L) g).map toTx,()):DenL [.row TxSh]) else none).isSome=true:=hp
 cases hd:okTp L g with
 | false=>rw [hd] at hp;cases hp
 | true=>
  have hF:templateEs.toS.F (L,g,u)=((templateP (List.map (α:=Den AccSh) accOf L) g).map toTx,()):=by
   show (bif okTp L g then some (((templateP (List.map (α:=Den AccSh) accOf L) g).map toTx,()):DenL [.row TxSh]) else none).getD _=_
   rw [hd];rfl
  unfold okTp at hd
  simp only [Bool.and_eq_true,decide_eq_true_eq] at hd
  obtain ⟨d1,d2,d3,d4⟩:=hd
  obtain ⟨a,n,c,La,rfl,hA,hm⟩:=acs_in (L:=L) h1 d2
  have hl:=congrArg List.length hm
  have hl2:(List.map (α:=Den AccSh) accOf L).length=List.length (α:=Den AccSh) L:=List.length_map _
  rw [List.length_map,hl2] at hl
  have hn:=hA.2.1
  have e1:templateV La g=templateP (L.map accOf) g:=(template_P La g).trans (congrArg (fun P=>templateP P g) hm)
  have h3:=inI_iff.1 d3
  refine (greedy.template La g a n c w hw hA (by omega) ⟨h3.1,h3.2⟩ (by rw [e1];exact d4)).mono ?_
  rintro e w' ⟨i,hs2,rfl,hb,hg⟩
  refine ⟨[_],rfl,hb,_,_,rfl,?_,rfl⟩
  rw [hF]
  rw [e1] at hs2 hg ⊢
  refine ⟨i.1,_,i.2,cellsL (templateP (L.map accOf) g),rfl,hs2,?_,txsOut _,fun z hz=>(hg _ (.head _) z hz).2,fun z hz=>.inl (hg _ (.head _) z hz).1⟩
  exact (List.length_map (f:=toTx)).symm
end Go.Proofs.YtdbjakibneeeiaaGreatDoor.shard
namespace Go.Proofs.YtdbjakibneeeiaaGreatDoor.Sx
open Go.RowKit
theorem EE.withT {D:DE} {E E':Env} {P:Program} {B:World→Prop} (hD:D.Oks E P B E'):D.Oks E P B { E' with turns:=true }:=
 ⟨hD.ok,hD.zero,hD.agg,hD.str,hD.keep,⟨hD.eok.zero,hD.eok.agg1,hD.eok.aggN,hD.eok.off,hD.eok.row,hD.eok.str,hD.eok.strs,hD.eok.ints,hD.eok.size,hD.eok.mixed,hD.eok.row1,hD.eok.meth,hD.eok.arr⟩⟩
theorem EE.outT {D:DE} {E E':Env} {P:Program} {B:World→Prop} (hD:D.Oks E P B { E' with turns:=true }):D.Oks E P B E':=
 ⟨hD.ok,hD.zero,hD.agg,hD.str,hD.keep,⟨hD.eok.zero,hD.eok.agg1,hD.eok.aggN,hD.eok.off,hD.eok.row,hD.eok.str,hD.eok.strs,hD.eok.ints,hD.eok.size,hD.eok.mixed,hD.eok.row1,hD.eok.meth,hD.eok.arr⟩⟩
universe u
variable {α β R S : Type}
def xb (m:Option α) (k:α→Option R):Option R:=match m with | some y=>k y | none=>none
def clF (L:List α):Option (List α):=bif decide (L.length≤1000000) then some L else none
theorem gd_true {o:Option R}:gd true o=o:=rfl
theorem xbr_true {x y:Option R}:xbr true x y=x:=rfl
theorem xbr_false {x y:Option R}:xbr false x y=y:=rfl
theorem clF_eq {L:List α} (h:L.length≤1000000):clF L=some L:=by unfold clF;rw [decide_eq_true h];rfl
def Tells (o:Option R) (Q:R→Prop):Prop:=∃r,o=some r∧Q r
namespace Tells
variable {Q : R → Prop} {o o' : Option R}
theorem ret {r:R} (h:Q r):Tells (some r) Q:=⟨r,rfl,h⟩
theorem eq {r:R} (h:o=Option.some r) (hq:Q r):Tells o Q:=⟨r,h,hq⟩
theorem mono {Q':R→Prop} (h:Tells o Q) (k:∀r,Q r→Q' r):Tells o Q':=h.imp fun r ⟨e,q⟩=>⟨e,k r q⟩
theorem gd {c:Bool} (hc:c=true) (h:Tells o Q):Tells (gd c o) Q:=by subst hc;exact h
theorem br {c:Bool} (h1:c=true→Tells o Q) (h2:c=false→Tells o' Q):Tells (xbr c o o') Q:=by
 cases c
 ·exact h2 rfl
 ·exact h1 rfl
theorem xb {m:Option α} {k:α→Option R} {P:α→Prop} (h:Tells m P) (hk:∀y,P y→Tells (k y) Q):Tells (xb m k) Q:=by
 obtain ⟨y,rfl,hy⟩:=h
 exact hk y hy
theorem xbe {m:Option α} {k:α→Option R} {y:α} (h:m=Option.some y) (hk:Tells (k y) Q):Tells (Sx.xb m k) Q:=by rw [h];exact hk
theorem loop {step:S→Option (S ⊕ R)} (I:S→Prop) (μ:S→Nat) (h:∀s,I s→Tells (step s) fun x=>match x with | .inl s'=>I s'∧μ s'<μ s | .inr r=>Q r) {s:S} (hs:I s):∀{n:Nat},μ s<n→Tells (xloop step n s) Q:=by
 intro n
 induction n generalizing s with
 | zero=>intro h;omega
 | succ n ih=>
  intro hn
  obtain ⟨x,e,hx⟩:=h s hs
  have e1:xloop step (n+1) s=match step s with | some (.inl y)=>xloop step n y | some (.inr r)=>some r | none=>none:=by kernel_rfl
  rw [e1,e]
  cases x with
  | inl y=>exact ih hx.1 (Nat.lt_of_lt_of_le hx.2 (Nat.le_of_lt_succ hn))
  | inr r=>exact ⟨r,rfl,hx⟩
end Tells
theorem Tells.of_eq {Q:R→Prop} {o:Option R} {r:R} (h:Tells o (· = r)):o=some r:=by
 obtain ⟨x,e,h⟩:=h
 rw [e,h]
theorem xloop_step {step:S→Option (S ⊕ R)} {n:Nat} {s:S}:xloop step (n+1) s=match step s with | some (.inl y)=>xloop step n y | some (.inr r)=>some r | none=>none:=by kernel_rfl
end Go.Proofs.YtdbjakibneeeiaaGreatDoor.Sx
namespace Go.Proofs.YtdbjakibneeeiaaGreatDoor.snapw
open Go.RowKit Sx queue
def tkV (g ph i tr:Int) (a1:Option Addr) (n1 c1:Nat) (a2:Option Addr) (n2 c2:Nat) (er s n t c gs:Int) (d:ByteArray) (a3:Option Addr) (n3 c3:Nat) (sl:Int):Value:=
 .agg #[.int .i64 g,.int .i64 ph,.int .i64 i,.int .i64 tr,.slice a1 n1 c1,.slice a2 n2 c2,.int .i64 er,.int .i64 s,.int .i64 n,.int .i64 t,.int .i64 c,.int .i64 gs,.string d,.slice a3 n3 c3,.int .i64 sl]
def waysM (v:Value):List (Int×Value):=[(0,.func (.func 76) #[v] #[]),(1,.func (.func 77) #[v] #[]),(2,.func (.func 78) #[v] #[]),(3,.func (.func 79) #[v] #[]),(4,.func (.func 80) #[v] #[]),(5,.func (.func 81) #[v] #[])]
theorem ways (g ph i tr:Int) (a1:Option Addr) (n1 c1:Nat) (a2:Option Addr) (n2 c2:Nat) (er s n t c gs:Int) (d:ByteArray) (a3:Option Addr) (n3 c3:Nat) (sl:Int) (w:World) :
  Calls Tryz.prog 37 (List.toArray [tkV g ph i tr a1 n1 c1 a2 n2 c2 er s n t c gs d a3 n3 c3 sl]) w fun e w'=>∃q:Nat,Gives w w' e (.map (some q)) [mapF q (waysM (tkV g ph i tr a1 n1 c1 a2 n2 c2 er s n t c gs d a3 n3 c3 sl))]:=by
 refine calls_of_exec Sxz.env_ok.keeps Tryz.func37 rfl [] (schedQ_ok _ _ (by kernel_rfl)) [] (by simp) ?_
 conv=>arg 5;whnf
 refine op_makeMap rfl (fun q hq=>?_)
 conv=>arg 5;whnf
 refine op_insert (g:=q) (l:=((waysM (tkV g ph i tr a1 n1 c1 a2 n2 c2 er s n t c gs d a3 n3 c3 sl)).take 0)) (x:=0) (v:=.func (.func 76) #[(tkV g ph i tr a1 n1 c1 a2 n2 c2 er s n t c gs d a3 n3 c3 sl)] #[]) [mapF q ((waysM (tkV g ph i tr a1 n1 c1 a2 n2 c2 er s n t c gs d a3 n3 c3 sl)).take 1)] rfl rfl rfl rfl Tryz.underlying101 Tryz.underlying3 (.head _) (.inl hq) (fun ψ hψ=>by simp only [List.mem_singleton] at hψ;exact .inr hψ) ?_
 conv=>arg 5;whnf
 refine op_insert (g:=q) (l:=((waysM (tkV g ph i tr a1 n1 c1 a2 n2 c2 er s n t c gs d a3 n3 c3 sl)).take 1)) (x:=1) (v:=.func (.func 77) #[(tkV g ph i tr a1 n1 c1 a2 n2 c2 er s n t c gs d a3 n3 c3 sl)] #[]) [mapF q ((waysM (tkV g ph i tr a1 n1 c1 a2 n2 c2 er s n t c gs d a3 n3 c3 sl)).take 2)] rfl rfl rfl rfl Tryz.underlying101 Tryz.underlying3 (.head _) (.inl hq) (fun ψ hψ=>by simp only [List.mem_singleton] at hψ;exact .inr hψ) ?_
 conv=>arg 5;whnf
 refine op_insert (g:=q) (l:=((waysM (tkV g ph i tr a1 n1 c1 a2 n2 c2 er s n t c gs d a3 n3 c3 sl)).take 2)) (x:=2) (v:=.func (.func 78) #[(tkV g ph i tr a1 n1 c1 a2 n2 c2 er s n t c gs d a3 n3 c3 sl)] #[]) [mapF q ((waysM (tkV g ph i tr a1 n1 c1 a2 n2 c2 er s n t c gs d a3 n3 c3 sl)).take 3)] rfl rfl rfl rfl Tryz.underlying101 Tryz.underlying3 (.head _) (.inl hq) (fun ψ hψ=>by simp only [List.mem_singleton] at hψ;exact .inr hψ) ?_
 conv=>arg 5;whnf
 refine op_insert (g:=q) (l:=((waysM (tkV g ph i tr a1 n1 c1 a2 n2 c2 er s n t c gs d a3 n3 c3 sl)).take 3)) (x:=3) (v:=.func (.func 79) #[(tkV g ph i tr a1 n1 c1 a2 n2 c2 er s n t c gs d a3 n3 c3 sl)] #[]) [mapF q ((waysM (tkV g ph i tr a1 n1 c1 a2 n2 c2 er s n t c gs d a3 n3 c3 sl)).take 4)] rfl rfl rfl rfl Tryz.underlying101 Tryz.underlying3 (.head _) (.inl hq) (fun ψ hψ=>by simp only [List.mem_singleton] at hψ;exact .inr hψ) ?_
 conv=>arg 5;whnf
 refine op_insert (g:=q) (l:=((waysM (tkV g ph i tr a1 n1 c1 a2 n2 c2 er s n t c gs d a3 n3 c3 sl)).take 4)) (x:=4) (v:=.func (.func 80) #[(tkV g ph i tr a1 n1 c1 a2 n2 c2 er s n t c gs d a3 n3 c3 sl)] #[]) [mapF q ((waysM (tkV g ph i tr a1 n1 c1 a2 n2 c2 er s n t c gs d a3 n3 c3 sl)).take 5)] rfl rfl rfl rfl Tryz.underlying101 Tryz.underlying3 (.head _) (.inl hq) (fun ψ hψ=>by simp only [List.mem_singleton] at hψ;exact .inr hψ) ?_
 conv=>arg 5;whnf
 refine op_insert (g:=q) (l:=((waysM (tkV g ph i tr a1 n1 c1 a2 n2 c2 er s n t c gs d a3 n3 c3 sl)).take 5)) (x:=5) (v:=.func (.func 81) #[(tkV g ph i tr a1 n1 c1 a2 n2 c2 er s n t c gs d a3 n3 c3 sl)] #[]) [mapF q ((waysM (tkV g ph i tr a1 n1 c1 a2 n2 c2 er s n t c gs d a3 n3 c3 sl)).take 6)] rfl rfl rfl rfl Tryz.underlying101 Tryz.underlying3 (.head _) (.inl hq) (fun ψ hψ=>by simp only [List.mem_singleton] at hψ;exact .inr hψ) ?_
 conv=>arg 5;whnf
 exact wp_back fun β ρ w' hM'=>⟨q,rfl,hM'.below,fun φ hφ g' hg'=>by simp only [List.mem_singleton] at hφ;subst hφ;cases hg';exact ⟨hq,(hM'.fact _ (.head _) q rfl).2⟩⟩
end Go.Proofs.YtdbjakibneeeiaaGreatDoor.snapw
namespace Go.Proofs.YtdbjakibneeeiaaGreatDoor.Sx
open Go.RowKit
variable {P : Program} {B : World → Prop} {W : World} {Q : Ending → World → Prop} {ds : List Deferred}
theorem lie_world {β ρ} {w:World} {m:M} (hM:Mem W none m β ρ w) {l:List Sh} {x:DenL l} {vs:List Value} (hl:LieA (inF m.facts) l x vs):LieA (AtO w fun g=>∃ψ∈m.facts,ψ.g=some g) l x vs:=
 LieA.mono (fun a xs h=>by
  refine ⟨at_inF hM a xs h,fun g hg=>?_⟩
  rcases h with rfl | ⟨φ,h1,h2,_⟩
  ·cases hg
  ·exact ⟨φ,h1,h2.trans hg⟩) hl
end Go.Proofs.YtdbjakibneeeiaaGreatDoor.Sx
namespace Go.Proofs.YtdbjakibneeeiaaGreatDoor.Sx
open Go.RowKit
structure Pl3 where
 a:Option Addr
 n:Nat
 c:Nat
def Pl3.v (q:Pl3):Value:=.slice q.a q.n q.c
def pl0:Pl3:=⟨none,0,0⟩
mutual
def cellsW:(s:Sh)→Den s→List Pl3→List Value×List Pl3
 | .int,x,r=>([.int .i64 x],r)
 | .bool,x,r=>([.bool x],r)
 | .str,x,r=>([.string x],r)
 | .num _,x,r=>([x],r)
 | .flat l,x,r=>cellsWL l x r
 | .row e,x,r=>match r with
  | q::r=>([q.v],r)
  | []=>([pl0.v],[])
termination_by structural s=>s
def cellsWL:(l:List Sh)→DenL l→List Pl3→List Value×List Pl3
 | [],_,r=>([],r)
 | s::l,x,r=>((cellsW s x.1 r).1++(cellsWL l x.2 (cellsW s x.1 r).2).1,(cellsWL l x.2 (cellsW s x.1 r).2).2)
termination_by structural l=>l
end
mutual
def rowsN:Sh→Nat
 | .flat l=>rowsNL l
 | .row _=>1
 | _=>0
termination_by structural s=>s
def rowsNL:List Sh→Nat
 | []=>0
 | s::l=>rowsN s+rowsNL l
termination_by structural l=>l
end
mutual
theorem cellsW_of {R:Option Addr→List Value→Prop}:∀{s:Sh} {x:Den s} {vs:List Value},LieV R s x vs→∃sl:List Pl3,sl.length=rowsN s∧∀r,cellsW s x (sl++r)=(vs,r)
 | .int,x,vs,h=>by have h:vs=[.int .i64 x]:=h;subst h;exact ⟨[],rfl,fun r=>rfl⟩
 | .bool,x,vs,h=>by have h:vs=[.bool x]:=h;subst h;exact ⟨[],rfl,fun r=>rfl⟩
 | .str,x,vs,h=>by have h:vs=[.string x]:=h;subst h;exact ⟨[],rfl,fun r=>rfl⟩
 | .num k,x,vs,h=>by have h:vs=[x]:=h.1;subst h;exact ⟨[],rfl,fun r=>rfl⟩
 | .flat l,x,vs,h=>cellsWL_of (l:=l) h
 | .row e,x,vs,⟨a,n,c,xs,e1,_⟩=>⟨[⟨a,n,c⟩],rfl,fun r=>by rw [e1];rfl⟩
theorem cellsWL_of {R:Option Addr→List Value→Prop}:∀{l:List Sh} {x:DenL l} {vs:List Value},LieL R l x vs→∃sl:List Pl3,sl.length=rowsNL l∧∀r,cellsWL l x (sl++r)=(vs,r)
 | [],x,vs,h=>by have h:vs=[]:=h;subst h;exact ⟨[],rfl,fun r=>rfl⟩
 | s::l,x,vs,⟨v1,v2,e,h1,h2⟩=>by
  obtain ⟨sl,k1,k2⟩:=cellsW_of h1
  obtain ⟨sl2,k3,k4⟩:=cellsWL_of h2
  refine ⟨sl++sl2,?_,fun r=>?_⟩
  ·rw [List.length_append,k1,k3];rfl
  ·show ((cellsW s x.1 (sl++sl2++r)).1++(cellsWL l x.2 (cellsW s x.1 (sl++sl2++r)).2).1,(cellsWL l x.2 (cellsW s x.1 (sl++sl2++r)).2).2)=(vs,r)
   rw [List.append_assoc,k2,k4,e]
end
def aggW (l:List Sh) (x:DenL l) (sl:List Pl3):Value:=.agg (List.toArray (cellsWL l x sl).1)
theorem aggW_of {R:Option Addr→List Value→Prop} {l:List Sh} {x:DenL l} {y:Value} (h:LieT R (.flat l) x y):∃sl:List Pl3,sl.length=rowsNL l∧y=aggW l x sl:=by
 obtain ⟨cs,e,h⟩:=h
 obtain ⟨sl,h1,h2⟩:=cellsWL_of h
 refine ⟨sl,h1,?_⟩
 have:=h2 []
 rw [List.append_nil] at this
 unfold aggW
 rw [e,this]
def valW:(s:Sh)→Den s→List Pl3→Value
 | .flat l,x,sl=>.agg (List.toArray (cellsWL l x sl).1)
 | .int,x,_=>.int .i64 x
 | .bool,x,_=>.bool x
 | .str,x,_=>.string x
 | .num _,x,_=>x
 | .row _,_,sl=>(sl.headD pl0).v
theorem valW_of {R:Option Addr→List Value→Prop} {s:Sh} {x:Den s} {y:Value} (h:LieT R s x y):∃sl:List Pl3,sl.length=rowsN s∧y=valW s x sl:=by
 cases s with
 | flat l=>exact aggW_of h
 | int=>exact ⟨[],rfl,h⟩
 | bool=>exact ⟨[],rfl,h⟩
 | str=>exact ⟨[],rfl,h⟩
 | num k=>exact ⟨[],rfl,h.1⟩
 | row e=>
  obtain ⟨a,n,c,xs,e1,_⟩:=h
  have e2:y=.slice a n c:=by simpa using e1
  exact ⟨[⟨a,n,c⟩],rfl,e2⟩
theorem len2 {l:List Pl3} (h:l.length=2):∃a n c a2 n2 c2,l=[⟨a,n,c⟩,⟨a2,n2,c2⟩]:=by
 match l,h with
 | [⟨a,n,c⟩,⟨a2,n2,c2⟩],_=>exact ⟨a,n,c,a2,n2,c2,rfl⟩
theorem len3 {l:List Pl3} (h:l.length=3):∃a n c a2 n2 c2 a3 n3 c3,l=[⟨a,n,c⟩,⟨a2,n2,c2⟩,⟨a3,n3,c3⟩]:=by
 match l,h with
 | [⟨a,n,c⟩,⟨a2,n2,c2⟩,⟨a3,n3,c3⟩],_=>exact ⟨a,n,c,a2,n2,c2,a3,n3,c3,rfl⟩
section
variable {P : Program} {B : World → Prop} {W : World} {Q : Ending → World → Prop} {ds : List Deferred} {N : Nat → Prop}
def dumF:Fact:=rowF none []
theorem inF_dum {gs:List Fact}:∀a xs,inF gs a xs→inF (dumF::gs) a xs:=fun a xs k=>k.mono fun _ h=>.tail _ h
def NewF (W:World) (N:Nat→Prop) (fs:List Fact):Prop:=∀φ∈fs,∀g,φ.g=some g→W.heap.size≤g∨N g
theorem NewF.dum {fs:List Fact} (h:NewF W N fs):NewF W N (dumF::fs):=fun φ hφ g hg=>by
 rcases List.mem_cons.1 hφ with rfl | hφ
 ·cases hg
 ·exact h φ hφ g hg
theorem NewF.app {fs gs:List Fact} (h:NewF W N fs) (k:NewF W N gs):NewF W N (fs++gs):=fun φ hφ=>(List.mem_append.1 hφ).elim (h φ) (k φ)
theorem meetN {g:FuncId} {S:Smry} {x:DenL S.ps} {vs:List Value} {ts:List T} {m:M} {k:Value→List Fact→Tree} (hg:callable P g=true∧S.Ok P B g) (hB:∀w,Below W.heap.size W w→B w) (hN:NewF W N m.facts) (hpre:S.pre x) (hl:LieA (inF m.facts) S.ps x vs) (hts:valsOf ts=some vs)
  (K:∀us gs,LieA (inF (dumF::gs)) S.rs (S.F x) us→NewF W N gs→(k (tup us) (dumF::gs)).wpD P W none Q ds):(Tree.call g ts m k).wpD P W none Q ds:=
 ⟨hg.1,fun β ρ w us hM hr=>by
  rw [valsOf_spec _ _ _ hts hr]
  refine (hg.2 _ w x vs (hB w hM.below) hpre (lie_world hM hl)).mono ?_
  rintro e w' ⟨us,rfl,hb,hu⟩
  obtain ⟨gs,h1,h2⟩:=LieA.got hu
  refine ⟨tup us,dumF::gs,rfl,hb,?_,K us gs (LieA.mono inF_dum h1) ?_⟩
  ·intro φ hφ g hg
   rcases List.mem_cons.1 hφ with rfl | hφ
   ·cases hg
   obtain ⟨a,ys,rfl,h3,h4⟩:=h2 φ hφ
   refine ⟨?_,h3 g hg⟩
   rcases h4 g hg with h5 | h5
   ·exact .inr (.inl h5)
   ·exact .inr (.inr h5)
  ·intro φ hφ g hg
   obtain ⟨a,ys,rfl,h3,h4⟩:=h2 φ hφ
   rcases h4 g hg with h5 | ⟨ψ,h6,h7⟩
   ·exact .inl (Nat.le_trans hM.below.size h5)
   ·exact hN ψ h6 g h7⟩
theorem ESm.pre_of {S:ESm} {x:DenL S.ps} {r:DenL S.rs} (h:S.F x=some r):S.toS.pre x∧S.toS.F x=r:=by
 constructor
 ·show (S.F x).isSome=true
  rw [h];rfl
 ·show (S.F x).getD _=r
  rw [h];rfl
theorem meetE {g:FuncId} {S:ESm} {x:DenL S.ps} {r:DenL S.rs} {vs:List Value} {ts:List T} {m:M} {k:Value→List Fact→Tree} (hr:S.F x=some r) (hg:callable P g=true∧S.toS.Ok P B g) (hB:∀w,Below W.heap.size W w→B w) (hN:NewF W N m.facts) (hl:LieA (inF m.facts) S.ps x vs) (hts:valsOf ts=some vs)
  (K:∀us gs,LieA (inF (dumF::gs)) S.rs r us→NewF W N (dumF::gs)→(k (tup us) (dumF::gs)).wpD P W none Q ds):(Tree.call g ts m k).wpD P W none Q ds:=
 meetN (S:=S.toS) hg hB hN (ESm.pre_of hr).1 hl hts (fun us gs h hN1=>K us gs (by rw [(ESm.pre_of hr).2] at h;exact h) hN1.dum)
theorem lie_end {m:M} {β ρ} {w':World} (hM:Mem W none m β ρ w') (hN:NewF W N m.facts) {l:List Sh} {x:DenL l} {vs:List Value} (hl:LieA (inF m.facts) l x vs):LieA (AtO w' fun g=>W.heap.size≤g∨N g) l x vs:=
 LieA.mono (fun a xs h=>⟨at_inF hM a xs h,fun g hg=>by
  rcases h with rfl | ⟨φ,h1,h2,_⟩
  ·cases hg
  ·exact hN φ h1 g (h2.trans hg)⟩) hl
end
theorem inF_mono {fs fs':List Fact} (h:∀φ∈fs,φ∈fs'):∀a xs,inF fs a xs→inF fs' a xs:=fun a xs k=>k.mono h
end Go.Proofs.YtdbjakibneeeiaaGreatDoor.Sx
namespace Go.Proofs.YtdbjakibneeeiaaGreatDoor.Sx
open Go.RowKit Go.ChangeShapes Go.WideShapes
mutual
def OkV:(s:Sh)→Den s→Prop
 | .int,x=>Fits x
 | .bool,_=>True
 | .str,x=>ByteArray.size x≤maxLen
 | .num _,_=>True
 | .flat l,x=>OkL l x
 | .row e,L=>List.length (α:=Den e) L≤maxLen∧∀x:Den e,List.Mem x L→OkV e x
termination_by structural s=>s
def OkL:(l:List Sh)→DenL l→Prop
 | [],_=>True
 | s::l,x=>OkV s x.1∧OkL l x.2
termination_by structural l=>l
end
abbrev AtW (w:World):Option Addr→List Value→Prop:=AtO w fun _=>True
mutual
theorem lies_den {w:World}:∀{s:Sh} {vs:List Value} {d:D},Lies w s vs d→∃x:Den s,LieV (AtW w) s x vs∧OkV s x
 | _,_,_,.int (n:=n) h=>⟨n,rfl,h⟩
 | _,_,_,.bool (x:=x)=>⟨x,rfl,trivial⟩
 | _,_,_,.str (x:=x) h=>⟨x,rfl,h⟩
 | _,_,_,.flat h=>liesL_den h
 | _,_,_,.row (e:=e) (a:=a) (n:=n) (c:=c) (xs:=xs) hs hn hl ha=>by
  obtain ⟨L,h1,h2,h3⟩:=liesN_den hl
  refine ⟨L,⟨a,n,c,xs,rfl,hs,?_,h1,ha,fun _ _=>trivial⟩,?_,h3⟩
  ·rw [hn];exact h2.symm
  ·have:=hs.1;have:=hs.2.1
   show List.length (α:=Den e) L≤maxLen
   omega
theorem liesL_den {w:World}:∀{l:List Sh} {vs:List Value} {ds:List D},LiesL w l vs ds→∃x:DenL l,LieL (AtW w) l x vs∧OkL l x
 | _,_,_,.nil=>⟨(),rfl,trivial⟩
 | _,_,_,.cons h hl=>by
  obtain ⟨x,h1,h2⟩:=lies_den h
  obtain ⟨y,h3,h4⟩:=liesL_den hl
  exact ⟨(x,y),⟨_,_,rfl,h1,h3⟩,h2,h4⟩
theorem liesN_den {w:World}:∀{e:Sh} {vs:List Value} {ds:List D},LiesN w e vs ds→∃L:List (Den e),LieN (LieV (AtW w) e) L vs∧L.length=ds.length∧∀x,List.Mem x L→OkV e x
 | _,_,_,.nil=>⟨[],rfl,rfl,fun x h=>by cases h⟩
 | _,_,_,.cons h hl=>by
  obtain ⟨x,h1,h2⟩:=lies_den h
  obtain ⟨L,h3,h4,h5⟩:=liesN_den hl
  refine ⟨x::L,⟨_,_,rfl,h1,h3⟩,by simp [h4],fun y hy=>?_⟩
  cases hy with
  | head=>exact h2
  | tail _ hy=>exact h5 y hy
end
def typedF (g:TypeId→Sh→Bool):List Field→Nat→List Sh→Bool
 | [],_,[]=>true
 | f::fs,o,s::l=>f.offset==o&&(g f.type s&&typedF g fs (o+s.size) l)
 | _,_,_=>false
def typedB (P:Program):Nat→TypeId→Sh→Bool
 | 0,_,_=>false
 | n+1,t,.int=>(match P.underlying t with | some (.int .i64)=>true | _=>false)&&P.cellsOf t==1
 | n+1,t,.bool=>(match P.underlying t with | some .bool=>true | _=>false)&&P.cellsOf t==1
 | n+1,t,.str=>(match P.underlying t with | some .string=>true | _=>false)&&P.cellsOf t==1
 | n+1,t,.row s=>(match P.underlying t with | some (.slice e)=>typedB P n e s | _=>false)&&(P.cellsOf t==1&&Nat.blt 0 s.size)
 | n+1,t,.flat l=>match P.underlying t with
  | some (.struct fs)=>typedF (typedB P n) fs.toList 0 l&&P.cellsOf t==Sh.sizes l
  | some (.array k e)=>match l with
   | s::_=>Sh.eqL l (List.replicate k s)&&(typedB P n e s&&P.cellsOf t==k*s.size)
   | []=>false
  | _=>false
 | _,_,_=>false
theorem typedF_of {P:Program} {g:TypeId→Sh→Bool} (hg:∀t s,g t s=true→Typed P t s):∀{fs:List Field} {o:Nat} {l:List Sh},typedF g fs o l=true→TypedL P fs o l
 | [],_,[],_=>.nil
 | f::fs,o,s::l,h=>by
  simp only [typedF,Bool.and_eq_true,beq_iff_eq] at h
  exact .cons h.1 (hg _ _ h.2.1) (typedF_of hg h.2.2)
 | [],_,_::_,h=>by cases h
 | _::_,_,[],h=>by cases h
theorem typedB_of {P:Program}:∀(n:Nat) {t:TypeId} {s:Sh},typedB P n t s=true→Typed P t s
 | 0,_,_,h=>by cases h
 | n+1,t,.int,h=>by
  simp only [typedB,Bool.and_eq_true,beq_iff_eq] at h
  obtain ⟨h1,h2⟩:=h
  split at h1
  ·rename_i e;exact .int e h2
  ·cases h1
 | n+1,t,.bool,h=>by
  simp only [typedB,Bool.and_eq_true,beq_iff_eq] at h
  obtain ⟨h1,h2⟩:=h
  split at h1
  ·rename_i e;exact .bool e h2
  ·cases h1
 | n+1,t,.str,h=>by
  simp only [typedB,Bool.and_eq_true,beq_iff_eq] at h
  obtain ⟨h1,h2⟩:=h
  split at h1
  ·rename_i e;exact .str e h2
  ·cases h1
 | n+1,t,.num _,h=>by simp [typedB] at h
 | n+1,t,.row s,h=>by
  simp only [typedB,Bool.and_eq_true,beq_iff_eq] at h
  obtain ⟨h1,h2,h3⟩:=h
  split at h1
  ·rename_i e he;exact .row he h2 (typedB_of n h1) (by have:=h3;simp [Nat.blt] at this;omega)
  ·cases h1
 | n+1,t,.flat l,h=>by
  unfold typedB at h
  split at h
  ·rename_i fs e
   simp only [Bool.and_eq_true,beq_iff_eq] at h
   exact .struct e (typedF_of (fun t s=>typedB_of n) h.1) h.2
  ·rename_i k e he
   cases l with
   | nil=>cases h
   | cons s l=>
    simp only [Bool.and_eq_true,beq_iff_eq] at h
    obtain ⟨h1,h2,h3⟩:=h
    rw [Sh.eqL_of h1]
    exact .array he (typedB_of n h2) h3
  ·cases h
section
variable {H : Type} {enc : TypeId × Value → H} {P : Program} {W : World} {base : Nat} {spare : Nat → Bool} {held : Bool}
theorem okWide_arr {r:Reach} {n b0:Nat} {w:World} {t e:TypeId} {v:Value} (ht:P.underlying t=some (.array n e)) (h:Value.okWide P w r b0 t v):∃cs,v=.agg cs∧cs.size=P.cellsOf t:=by
 simp only [Value.okWide,ht] at h
 obtain ⟨cs,h1,h2,_⟩:=h
 exact ⟨cs,h1,h2⟩
theorem open_den {t:TypeId} {s:Sh} {r:Reach} {b0:Nat} {v:Value} {d:DataW H} {p:List MemPlace} (n:Nat) (ht:typedB P n t s=true) (hv:Value.okWide P W r b0 t v) (h:DataW.Trod enc P W base spare held t v d p):∃x:Den s,LieT (AtW W) s x v∧OkV s x:=by
 have ht:=typedB_of n ht
 obtain ⟨fuel,hf⟩:=h
 obtain ⟨d,hd⟩:=lies_of_trod fuel ht hf
 obtain ⟨x,hx,ho⟩:=lies_den hd
 refine ⟨x,?_,ho⟩
 cases ht with
 | int hu _=>
  obtain ⟨k,rfl⟩:=okWide_int hu hv
  have hx : [Value.int .i64 k]=[.int .i64 x]:=hx
  show Value.int .i64 k=.int .i64 x
  simpa using hx
 | bool hu _=>
  obtain ⟨k,rfl⟩:=okWide_bool hu hv
  have hx : [Value.bool k]=[.bool x]:=hx
  show Value.bool k=.bool x
  simpa using hx
 | str hu _=>
  obtain ⟨k,rfl⟩:=okWide_string hu hv
  have hx : [Value.string k]=[.string x]:=hx
  show Value.string k=.string x
  simpa using hx
 | row hu _ _ _=>
  obtain ⟨a,len,cap,rfl⟩:=okWide_slice hu hv
  exact hx
 | struct hu _ _=>
  obtain ⟨cs,rfl,_⟩:=okWide_struct hu hv
  exact ⟨cs.toList,by simp,hx⟩
 | array hu _ _=>
  obtain ⟨cs,rfl,_⟩:=okWide_arr hu hv
  exact ⟨cs.toList,by simp,hx⟩
end
theorem Smry.tells {P:Program} {B:World→Prop} {f:FuncId} {ps:List Sh} {F:DenL ps→Option (DenL [.bool])} (h:(ESm.toS ⟨ps,[.bool],F⟩).Ok P B f) {w:World} {x:DenL ps} {vs:List Value} (hB:B w) (hF:F x=some (true,())) (hl:LieA (AtW w) ps x vs) :
  Calls P f (List.toArray vs) w fun e w'=>e=.returned (.bool true)∧Below w.heap.size w w':=by
 refine (h _ w x vs hB (show (F x).isSome=true by rw [hF];rfl) hl).mono ?_
 rintro e w' ⟨us,rfl,hb,hu⟩
 have hu:LieA (AtO w' fun g=>w.heap.size≤g∨True) [.bool] ((F x).getD (Sh.zL [.bool])) us:=hu
 rw [hF] at hu
 obtain ⟨y,us2,rfl,h1,h2⟩:=hu
 have h1:y=.bool true:=h1
 have h2:us2=[]:=h2
 subst h1 h2
 exact ⟨rfl,hb⟩
end Go.Proofs.YtdbjakibneeeiaaGreatDoor.Sx
