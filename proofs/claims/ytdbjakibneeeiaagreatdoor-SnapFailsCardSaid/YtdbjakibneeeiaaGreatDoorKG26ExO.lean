/- Leafs of the table: functions whose contracts are known otherwise, over plain data. -/
import Derived.Test.YtdbjakibneeeiaaGreatDoorKG24ExH
import Derived.Test.YtdbjakibneeeiaaGreatDoorKQueTop
import Derived.Test.YtdbjakibneeeiaaGreatDoorKTxnEnc
import Derived.Test.YtdbjakibneeeiaaGreatDoorKTxnTop
import Derived.Test.YtdbjakibneeeiaaGreatDoorKEvJ
import Derived.Test.YtdbjakibneeeiaaGreatDoorKGreedyAll
import Derived.KernelRfl
import Derived.Test.YtdbjakibneeeiaaGreatDoorKG25TkEnv
import Derived.Test.YtdbjakibneeeiaaGreatDoorKG3SxB
import Derived.Test.YtdbjakibneeeiaaGreatDoorKG20SxA
import Derived.Test.YtdbjakibneeeiaaGreatDoorKG18QueueOpen
set_option linter.all false
set_option maxHeartbeats 4000000
set_option maxRecDepth 100000
namespace Go.Proofs.YtdbjakibneeeiaaGreatDoor.Sx
open Go.RowKit
def Env.Ok.CG {E:Env} {P:Program} (hE:E.Ok P) (h:List (FuncId×Pq)):({ E with how:=h }:Env).Ok P:=⟨hE.zero,hE.agg1,hE.aggN,hE.off,hE.row,hE.str,hE.strs,hE.ints,hE.size,hE.mixed,hE.row1,hE.meth,hE.arr⟩
def l7 (s:Sh) (e:TypeId) (size:Nat):Gz:=⟨[.row s],s,e,size,fun x=>bif decide (List.length (α:=Den s) x.1≤1000000) then some x.1 else none⟩
def gS {P:Program} {B:World→Prop} {f:FuncId} {s:Sh} {e:TypeId} {size:Nat} (hs:s.size=size)
  (hc:∀(X:List Value) (a:Option Addr) (n c:Nat) (w:World),Sl a n c→X.length=n*size→(∀u∈X,u.oneCell'=true)→At w (pt a n) X→n≤1000000→Calls P f (List.toArray [.slice a n c]) w fun e' w'=>∃v,e'=.returned v∧Below w.heap.size w w'∧w'.ownsRow w.heap.size e size v n X) :
  (l7 s e size).fG.Ok P B f:=by
 intro R w x vs hw hp hR hl
 obtain ⟨L,u⟩:=x
 obtain ⟨y,us,rfl,⟨a,n,c,xs,e1,h1,h2,h3,h4⟩,h5⟩:=hl
 have h5:us=[]:=h5
 have e1:y=.slice a n c:=by simpa using e1
 subst h5 e1
 have hp:(bif decide (List.length (α:=Den s) L≤1000000) then some L else none).isSome=true:=hp
 have h2:n=List.length (α:=Den s) L:=h2
 have h3:bK (α:=Den s) (aW R s) L xs:=h3
 cases hd:decide (List.length (α:=Den s) L≤1000000) with
 | false=>rw [hd] at hp;cases hp
 | true=>
  have hn:=of_decide_eq_true hd
  have hF:(l7 s e size).fG.F (L,u)=L:=by
   show (bif decide (List.length (α:=Den s) L≤1000000) then some L else none).getD []=L
   rw [hd];rfl
  have hxl:=bK.len (fun x vs=>aW.len (s:=s)) h3
  refine (hc xs a n c w h1 (by rw [hxl,hs,h2]) (sn h3) (hR _ _ h4) (by rw [h2];exact hn)).mono ?_
  rintro e' w' ⟨v,rfl,hb,ho⟩
  refine ⟨v,xs,rfl,hb,?_,?_⟩
  ·rw [hF]
   show w'.ownsRow w.heap.size e size v (List.length (α:=Den s) L) xs
   rw [← h2];exact ho
  ·rw [hF];exact h3
def rT:Value→Bool
 | .slice none 0 0=>true
 | _=>false
def DG {z:Value} (h:rT z=true):z=.slice none 0 0:=by
 cases z with
 | slice a n c=>
  cases a with
  | some _=>cases h
  | none=>
   cases n with
   | succ _=>cases h
   | zero=>
    cases c with
    | succ _=>cases h
    | zero=>rfl
 | _=>cases h
def A3 (k:Int):Bool:=decide (0≤k)&&decide (k≤1000000)
def G5 {k:Int} (h:A3 k=true):0≤k∧k≤((1000000:Nat):Int):=by
 obtain ⟨h7,h8⟩:=Bool.and_eq_true_iff.1 h
 exact ⟨of_decide_eq_true h7,of_decide_eq_true h8⟩
def BQ (s:Sh) (e:TypeId) (size:Nat):Gz:=⟨[.num 9,.int],s,e,size,fun x=>bif rT x.1&&A3 x.2.1 then some [] else none⟩
def YX {P:Program} {B:World→Prop} {f:FuncId} {s:Sh} {e:TypeId} {size:Nat}
  (hc:∀(k:Nat) (w:World),k≤1000000→Calls P f #[.slice none 0 0,.int .i64 k] w fun e' w'=>∃v,e'=.returned v∧Below w.heap.size w w'∧w'.ownsRow w.heap.size e size v 0 []) :
  (BQ s e size).fG.Ok P B f:=by
 intro R w x vs hw hp hR hl
 obtain ⟨z,k,u⟩:=x
 obtain ⟨y,us,rfl,h1,y2,us2,rfl,h2,h3⟩:=hl
 have h1:y=z:=h1.1
 have h2:y2=.int .i64 k:=h2
 have h3:us2=[]:=h3
 subst h1 h2 h3
 have hp:(bif rT y&&A3 k then some ([]:List (Den s)) else none).isSome=true:=hp
 cases hd:(rT y&&A3 k) with
 | false=>rw [hd] at hp;cases hp
 | true=>
  have hF:(BQ s e size).fG.F (y,k,u)=[]:=by
   show (bif rT y&&A3 k then some ([]:List (Den s)) else none).getD []=[]
   rw [hd];rfl
  obtain ⟨h5,h6⟩:=Bool.and_eq_true_iff.1 hd
  obtain ⟨h7,h8⟩:=G5 (k:=k) h6
  have h5:=DG h5
  subst h5
  obtain ⟨m,rfl⟩:=Int.eq_ofNat_of_zero_le h7
  refine (hc m w (Int.ofNat_le.1 h8)).mono ?_
  rintro e' w' ⟨v,rfl,hb,ho⟩
  refine ⟨v,[],rfl,hb,?_,?_⟩
  ·rw [hF];exact ho
  ·rw [hF];exact rfl
def BG {P:Program} {B:World→Prop} {f:FuncId} {F:Int→Int→Int} (hc:∀(s n:Int) (w:World),Calls P f #[.int .i64 s,.int .i64 n] w fun e w'=>e=.returned (.int .i64 (F s n))∧Below w.heap.size w w') :
  (bI.fG ⟨[.int,.int],[.int],fun x=>some (F x.1 x.2.1,())⟩).Ok P B f:=by
 intro O w x vs hw hp hl
 obtain ⟨i,j,u⟩:=x
 obtain ⟨y,us,rfl,h1,y2,us2,rfl,h2,h3⟩:=hl
 have h1:y=.int .i64 i:=h1
 have h2:y2=.int .i64 j:=h2
 have h3:us2=[]:=h3
 subst h1 h2 h3
 refine (hc i j w).mono ?_
 rintro e w' ⟨rfl,hb⟩
 exact ⟨[_],rfl,hb,_,_,rfl,rfl,rfl⟩
def Ic {P:Program} {B:World→Prop} {f:FuncId} {F:Int→Option ByteArray} (hc:∀(s:Int) (w:World) (z:ByteArray),F s=some z→Calls P f #[.int .i64 s] w fun e w'=>e=.returned (.string z)∧Below w.heap.size w w') :
  (bI.fG ⟨[.int],[.str],fun x=>(F x.1).map fun z=>(z,())⟩).Ok P B f:=by
 intro O w x vs hw hp hl
 obtain ⟨i,u⟩:=x
 obtain ⟨y,us,rfl,h1,h3⟩:=hl
 have h1:y=.int .i64 i:=h1
 have h3:us=[]:=h3
 subst h1 h3
 cases hF:F i with
 | none=>
  have hp:((F i).map fun z=>((z,()):ByteArray×Unit)).isSome=true:=hp
  rw [hF] at hp;cases hp
 | some z=>
  refine (hc i w z hF).mono ?_
  rintro e w' ⟨rfl,hb⟩
  refine ⟨[_],rfl,hb,_,_,rfl,?_,rfl⟩
  show Value.string z=.string ((((F i).map fun z=>((z,()):ByteArray×Unit)).getD (ByteArray.empty,())).1)
  rw [hF];rfl
def He {P:Program} {B:World→Prop} {f:FuncId} {F:ByteArray→Option ByteArray} (hc:∀(s:ByteArray) (w:World) (z:ByteArray),F s=some z→Calls P f #[.string s] w fun e w'=>e=.returned (.string z)∧Below w.heap.size w w') :
  (bI.fG ⟨[.str],[.str],fun x=>(F x.1).map fun z=>(z,())⟩).Ok P B f:=by
 intro O w x vs hw hp hl
 obtain ⟨i,u⟩:=x
 obtain ⟨y,us,rfl,h1,h3⟩:=hl
 have h1:y=.string i:=h1
 have h3:us=[]:=h3
 subst h1 h3
 cases hF:F i with
 | none=>
  have hp:((F i).map fun z=>((z,()):ByteArray×Unit)).isSome=true:=hp
  rw [hF] at hp;cases hp
 | some z=>
  refine (hc i w z hF).mono ?_
  rintro e w' ⟨rfl,hb⟩
  refine ⟨[_],rfl,hb,_,_,rfl,?_,rfl⟩
  show Value.string z=.string ((((F i).map fun z=>((z,()):ByteArray×Unit)).getD (ByteArray.empty,())).1)
  rw [hF];rfl
abbrev cg:Sh:=.flat [.int,.int,.int,.int,.int,.str]
def Gh {P:Program} {B:World→Prop} {f:FuncId} {F:Int→Int→Int→Int→Int→ByteArray→Bool} (hc:∀(s n t c g:Int) (d:ByteArray) (w:World),B w→Calls P f #[.agg #[.int .i64 s,.int .i64 n,.int .i64 t,.int .i64 c,.int .i64 g,.string d]] w fun e w'=>e=.returned (.bool (F s n t c g d))∧Below w.heap.size w w') :
  (bI.fG ⟨[cg],[.bool],fun x=>some (F x.1.1 x.1.2.1 x.1.2.2.1 x.1.2.2.2.1 x.1.2.2.2.2.1 x.1.2.2.2.2.2.1,())⟩).Ok P B f:=by
 intro O w x vs hw hp hl
 obtain ⟨⟨s,n,t,c,g,d,u⟩,u2⟩:=x
 obtain ⟨y,us,rfl,⟨cs,rfl,k⟩,h3⟩:=hl
 have h3:us=[]:=h3
 obtain ⟨v1,q1,rfl,k1,v2,q2,rfl,k2,v3,q3,rfl,k3,v4,q4,rfl,k4,v5,q5,rfl,k5,v6,q6,rfl,k6,k7⟩:=k
 have k1:v1=[.int .i64 s]:=k1
 have k2:v2=[.int .i64 n]:=k2
 have k3:v3=[.int .i64 t]:=k3
 have k4:v4=[.int .i64 c]:=k4
 have k5:v5=[.int .i64 g]:=k5
 have k6:v6=[.string d]:=k6
 have k7:q6=[]:=k7
 subst h3 k1 k2 k3 k4 k5 k6 k7
 refine (hc s n t c g d w hw).mono ?_
 rintro e w' ⟨rfl,hb⟩
 exact ⟨[_],rfl,hb,_,_,rfl,rfl,rfl⟩
end Go.Proofs.YtdbjakibneeeiaaGreatDoor.Sx
namespace Go.Proofs.YtdbjakibneeeiaaGreatDoor.queue
open Go.RowKit Sx txn
def cz (x:Den cg):Tx:=⟨x.1,x.2.1,x.2.2.1,x.2.2.2.1,x.2.2.2.2.1,x.2.2.2.2.2.1⟩
def fK (t:Tx):Den cg:=(t.s,t.n,t.t,t.c,t.g,t.d,())
abbrev aX:Sh:=.flat [.int,.int,.row cg]
def NM {R:Option Addr→List Value→Prop} {x:Den cg} {xs:List Value} (h:aW R cg x xs):xs=[.int .i64 (cz x).s,.int .i64 (cz x).n,.int .i64 (cz x).t,.int .i64 (cz x).c,.int .i64 (cz x).g,.string (cz x).d]:=by
 obtain ⟨s,n,t,c,g,d,u⟩:=x
 obtain ⟨v1,q1,rfl,k1,v2,q2,rfl,k2,v3,q3,rfl,k3,v4,q4,rfl,k4,v5,q5,rfl,k5,v6,q6,rfl,k6,k7⟩:=h
 have k1:v1=[.int .i64 s]:=k1
 have k2:v2=[.int .i64 n]:=k2
 have k3:v3=[.int .i64 t]:=k3
 have k4:v4=[.int .i64 c]:=k4
 have k5:v5=[.int .i64 g]:=k5
 have k6:v6=[.string d]:=k6
 have k7:q6=[]:=k7
 subst k1 k2 k3 k4 k5 k6 k7
 rfl
def J4 {R:Option Addr→List Value→Prop} {x:Den cg} {y:Value} (h:fY R cg x y):y=(cz x).val:=by
 obtain ⟨cs,rfl,k⟩:=h
 rw [NM k];rfl
def F9 {R:Option Addr→List Value→Prop} (t:Tx):aW R cg (fK t) [.int .i64 t.s,.int .i64 t.n,.int .i64 t.t,.int .i64 t.c,.int .i64 t.g,.string t.d]:=
 ⟨[.int .i64 t.s],_,rfl,rfl,[.int .i64 t.n],_,rfl,rfl,[.int .i64 t.t],_,rfl,rfl,[.int .i64 t.c],_,rfl,rfl,[.int .i64 t.g],_,rfl,rfl,[.string t.d],[],rfl,rfl,rfl⟩
def FR {R:Option Addr→List Value→Prop} (t:Tx):fY R cg (fK t) t.val:=⟨_,rfl,F9 t⟩
def IQ {R:Option Addr→List Value→Prop}:∀{L:List (Den cg)} {xs:List Value},bK (aW R cg) L xs→xs=ah (L.map cz)
 | [],xs,h=>by have h:xs=[]:=h;rw [h];rfl
 | x::L,xs,⟨v1,v2,e,h1,h2⟩=>by rw [e,NM h1,IQ h2];rfl
def sQ {R:Option Addr→List Value→Prop}:∀l:List Tx,bK (aW R cg) (l.map fK) (ah l)
 | []=>rfl
 | t::l=>⟨_,_,rfl,F9 t,sQ l⟩
def BZ {R:Option Addr→List Value→Prop} {s b:Int} {L:List (Den cg)} {u:Unit} {y:Value} (h:fY R aX (s,b,L,u) y):∃a n c,y=acc s b a n c∧Sl a n c∧n=(L.map cz).length∧R (pt a n) (ah (L.map cz)):=by
 obtain ⟨cs,rfl,v1,q1,rfl,k1,v2,q2,rfl,k2,v3,q3,rfl,⟨a,n,c,xs,e1,hs,hn,hx,hr⟩,k7⟩:=h
 have k1:v1=[.int .i64 s]:=k1
 have k2:v2=[.int .i64 b]:=k2
 have k7:q3=[]:=k7
 subst k1 k2 k7 e1
 have hx:bK (α:=Den cg) (aW R cg) L xs:=hx
 have:=IQ hx
 subst this
 have hn:n=List.length (α:=Den cg) L:=hn
 exact ⟨a,n,c,rfl,hs,by rw [List.length_map];exact hn,hr⟩
def AM {w w':World} {O:Nat→Prop} {s b:Int} {l:List Tx} {a:Option Addr} {c:Nat} (hs:Sl a l.length c) (h:∀g,(ay (pt a l.length) (ah l)).g=some g→w.heap.size≤g∧∃o,w'.heap[g]?=some o∧(ay (pt a l.length) (ah l)).holds o) :
  fY (Ar w' fun g=>w.heap.size≤g∨O g) aX (s,b,l.map fK,()) (acc s b a l.length c):=
 ⟨[.int .i64 s,.int .i64 b,.slice a l.length c],rfl,[.int .i64 s],_,rfl,rfl,[.int .i64 b],_,rfl,rfl,[.slice a l.length c],[],rfl,⟨a,_,c,ah l,rfl,hs,(List.length_map (f:=fK)).symm,sQ l,fun g hg=>(h g hg).2,fun g hg=>.inl (h g hg).1⟩,rfl⟩
def FU:bI:=⟨[aX,.int],[cg,.bool],fun x=>some (fK (qF (List.map (α:=Den cg) cz x.1.2.2.1) x.2.1).1,(qF (List.map (α:=Den cg) cz x.1.2.2.1) x.2.1).2,())⟩
def Gg (B:World→Prop):FU.fG.Ok Tryz.prog B 139:=by
 intro O w x vs hw hp hl
 obtain ⟨⟨s,b,L,u⟩,v,u2⟩:=x
 obtain ⟨y,us,rfl,h1,y2,us2,rfl,h2,h3⟩:=hl
 have h2:y2=.int .i64 v:=h2
 have h3:us2=[]:=h3
 obtain ⟨a,n,c,rfl,hs,hn,hr⟩:=BZ h1
 subst h2 h3
 refine (find s b (List.map (α:=Den cg) cz L) a n c v w hs hn hr.1).mono ?_
 rintro e w' ⟨rfl,hb⟩
 exact ⟨[_,_],rfl,hb,_,_,rfl,FR _,_,_,rfl,rfl,rfl⟩
def Hl (L:List (Den cg)):Bool:=decide (L.length≤100000)
def Cr {L:List (Den cg)} (h:Hl L=true):(L.map cz).length≤100000:=by
 have h:decide (L.length≤100000)=true:=h
 rw [List.length_map];exact of_decide_eq_true h
def Hh:bI:=⟨[aX,cg],[aX],fun x=>bif Hl x.1.2.2.1 then some ((x.1.1,x.1.2.1,(kJ (cz x.2.1) (List.map (α:=Den cg) cz x.1.2.2.1)).map fK,()),()) else none⟩
def Ik (B:World→Prop):Hh.fG.Ok Tryz.prog B 141:=by
 intro O w x vs hw hp hl
 obtain ⟨⟨s,b,L,u⟩,t,u2⟩:=x
 obtain ⟨y,us,rfl,h1,y2,us2,rfl,h2,h3⟩:=hl
 have h2:=J4 h2
 have h3:us2=[]:=h3
 obtain ⟨a,n,c,rfl,hs,hn,hr⟩:=BZ h1
 subst h2 h3
 have hp:(bif Hl L then some (((s,b,(kJ (cz t) (List.map (α:=Den cg) cz L)).map fK,()),()):af [aX]) else none).isSome=true:=hp
 cases hf:Hl L with
 | false=>rw [hf] at hp;cases hp
 | true=>
  refine (put s b (List.map (α:=Den cg) cz L) a n c (cz t) w hs hn hr.1 (Cr hf)).mono ?_
  rintro e w' ⟨i,hs2,rfl,hb,hg⟩
  refine ⟨[_],rfl,hb,_,_,rfl,?_,rfl⟩
  have hF:Hh.fG.F ((s,b,L,u),t,u2)=((s,b,(kJ (cz t) (List.map (α:=Den cg) cz L)).map fK,()),()):=by
   show (bif Hl L then some (((s,b,(kJ (cz t) (List.map (α:=Den cg) cz L)).map fK,()),()):af [aX]) else none).getD _=_
   rw [hf];rfl
  rw [hF]
  exact AM hs2 (hg _ (.head _))
def BW:bI:=⟨[aX,.int],[aX],fun x=>bif Hl x.1.2.2.1 then some ((x.1.1,x.1.2.1,(mR x.2.1 (List.map (α:=Den cg) cz x.1.2.2.1)).map fK,()),()) else none⟩
def Fb (B:World→Prop):BW.fG.Ok Tryz.prog B 172:=by
 intro O w x vs hw hp hl
 obtain ⟨⟨s,b,L,u⟩,v,u2⟩:=x
 obtain ⟨y,us,rfl,h1,y2,us2,rfl,h2,h3⟩:=hl
 have h2:y2=.int .i64 v:=h2
 have h3:us2=[]:=h3
 obtain ⟨a,n,c,rfl,hs,hn,hr⟩:=BZ h1
 subst h2 h3
 have hp:(bif Hl L then some (((s,b,(mR v (List.map (α:=Den cg) cz L)).map fK,()),()):af [aX]) else none).isSome=true:=hp
 cases hf:Hl L with
 | false=>rw [hf] at hp;cases hp
 | true=>
  refine (drop s b (List.map (α:=Den cg) cz L) a n c v w hs hn hr.1 (Nat.le_trans (Cr hf) (by omega))).mono ?_
  rintro e w' ⟨i,hs2,rfl,hb,hg⟩
  refine ⟨[_],rfl,hb,_,_,rfl,?_,rfl⟩
  have hF:BW.fG.F ((s,b,L,u),v,u2)=((s,b,(mR v (List.map (α:=Den cg) cz L)).map fK,()),()):=by
   show (bif Hl L then some (((s,b,(mR v (List.map (α:=Den cg) cz L)).map fK,()),()):af [aX]) else none).getD _=_
   rw [hf];rfl
  rw [hF]
  exact AM hs2 (hg _ (.head _))
end Go.Proofs.YtdbjakibneeeiaaGreatDoor.queue
namespace Go.Proofs.YtdbjakibneeeiaaGreatDoor.queue
open Go.RowKit Sx txn
def H8:bI:=⟨[cg],[.str,.bool],fun x=>bif decide ((cz x.1).d.size≤maxLen) then some (⟨(fH (cz x.1)).toArray⟩,(cz x.1).ok,()) else none⟩
def HW:H8.fG.Ok Tryz.prog bA 202:=by
 intro O w x vs hw hp hl
 obtain ⟨t,u⟩:=x
 obtain ⟨y,us,rfl,h1,h3⟩:=hl
 have h1:=J4 h1
 have h3:us=[]:=h3
 subst h1 h3
 have hp:(bif decide ((cz t).d.size≤maxLen) then some ((⟨(fH (cz t)).toArray⟩,(cz t).ok,()):af [.str,.bool]) else none).isSome=true:=hp
 cases hd:decide ((cz t).d.size≤maxLen) with
 | false=>rw [hd] at hp;cases hp
 | true=>
  have hF:H8.fG.F (t,u)=(⟨(fH (cz t)).toArray⟩,(cz t).ok,()):=by
   show (bif decide ((cz t).d.size≤maxLen) then some ((⟨(fH (cz t)).toArray⟩,(cz t).ok,()):af [.str,.bool]) else none).getD _=_
   rw [hd];rfl
  refine (encode (cz t) w hw (of_decide_eq_true hd)).mono ?_
  rintro e w' ⟨rfl,hb⟩
  refine ⟨[_,_],rfl,hb,?_⟩
  rw [hF]
  exact ⟨_,_,rfl,rfl,_,_,rfl,rfl,rfl⟩
def E6 (s:ByteArray):af [cg,.bool]:=match dec s.data.toList with
 | none=>(fK Tx.zero,false,())
 | some t=>(fK t,true,())
def Hy:bI:=⟨[.str],[cg,.bool],fun x=>bif decide (ByteArray.size x.1≤maxLen) then some (E6 x.1) else none⟩
def HX:Hy.fG.Ok Tryz.prog bA 135:=by
 intro O w x vs hw hp hl
 obtain ⟨s,u⟩:=x
 obtain ⟨y,us,rfl,h1,h3⟩:=hl
 have h1:y=.string s:=h1
 have h3:us=[]:=h3
 subst h1 h3
 have hp:(bif decide (ByteArray.size s≤maxLen) then some (E6 s) else none).isSome=true:=hp
 cases hd:decide (ByteArray.size s≤maxLen) with
 | false=>rw [hd] at hp;cases hp
 | true=>
  have hF:Hy.fG.F (s,u)=E6 s:=by
   show (bif decide (ByteArray.size s≤maxLen) then some (E6 s) else none).getD _=_
   rw [hd];rfl
  refine (Bo s w hw (of_decide_eq_true hd)).mono ?_
  rintro e w' ⟨rfl,hb⟩
  rw [hF]
  unfold E6
  cases dec (ByteArray.data s).toList with
  | none=>exact ⟨[_,_],rfl,hb,_,_,rfl,FR _,_,_,rfl,rfl,rfl⟩
  | some t=>exact ⟨[_,_],rfl,hb,_,_,rfl,FR _,_,_,rfl,rfl,rfl⟩
end Go.Proofs.YtdbjakibneeeiaaGreatDoor.queue
namespace Go.Proofs.YtdbjakibneeeiaaGreatDoor.ax
open Go.RowKit Sx txn queue aL
abbrev pe:Sh:=.row aX
abbrev l8:Sh:=.flat [.row aX,.int]
def cX (x:Den aX):PA:=(x.1,x.2.1,List.map (α:=Den cg) cz x.2.2.1)
def kB (p:PA):Den aX:=(p.1,p.2.1,p.2.2.map fK,())
def PJ (t:Den cg):Bool:=decide ((cz t).d.size≤maxLen)
def A7 (x:Den aX):Bool:=decide (List.length (α:=Den cg) x.2.2.1≤1000000)&&List.all (α:=Den cg) x.2.2.1 PJ
def Lg {R:Option Addr→List Value→Prop} {x:Den aX} {xs:List Value} (h:aW R aX x xs) (ho:A7 x=true):∃q:Ac,xs=q.cs∧jg q=cX x∧q.fit∧R (pt q.a q.n) (ah q.l):=by
 obtain ⟨s,b,L,u⟩:=x
 obtain ⟨a,n,c,e,hs,hn,hr⟩:=BZ (y:=.agg xs.toArray) ⟨xs,rfl,h⟩
 have e:xs=[.int .i64 s,.int .i64 b,.slice a n c]:=by
  have:=congrArg (fun v=>match v with | Value.agg l=>l.toList | _=>[]) e
  simpa [acc] using this
 have ho:(decide (List.length (α:=Den cg) L≤1000000)&&List.all (α:=Den cg) L PJ)=true:=ho
 obtain ⟨h1,h2⟩:=Bool.and_eq_true_iff.1 ho
 refine ⟨⟨s,b,a,n,c,List.map (α:=Den cg) cz L⟩,e,rfl,⟨hs,hn,?_,?_⟩,hr⟩
 ·exact Nat.le_trans (Nat.le_of_eq (List.length_map (α:=Den cg) cz)) (of_decide_eq_true h1)
 ·intro t ht
  obtain ⟨y,hy,rfl⟩:=List.mem_map.1 ht
  exact of_decide_eq_true ((List.all_eq_true.1 h2) y hy)
def Cl {R:Option Addr→List Value→Prop}:∀{L:List (Den aX)} {xs:List Value},bK (aW R aX) L xs→L.all A7=true→∃La:List Ac,xs=aF La∧La.map jg=L.map cX∧∀q∈La,q.fit∧R (pt q.a q.n) (ah q.l)
 | [],xs,h,_=>⟨[],h,rfl,by simp⟩
 | x::L,xs,⟨v1,v2,e,h1,h2⟩,ho=>by
  rw [List.all_cons,Bool.and_eq_true] at ho
  obtain ⟨q,e1,e2,e3,e4⟩:=Lg h1 ho.1
  obtain ⟨La,k1,k2,k3⟩:=Cl h2 ho.2
  refine ⟨q::La,by rw [e,e1,k1];rfl,by rw [List.map_cons,List.map_cons,e2,k2],fun z hz=>?_⟩
  rcases List.mem_cons.1 hz with rfl | hz
  ·exact ⟨e3,e4⟩
  ·exact k3 z hz
def wS {w:World} {O:Nat→Prop} {L:List (Den aX)} {y:Value} (h:fY (Ar w O) pe L y) (ho:L.all A7=true):∃a n c La,y=.slice a n c∧zB w a n c La∧La.map jg=L.map cX:=by
 obtain ⟨a,n,c,xs,e,hs,hn,hx,hr⟩:=h
 have e:y=.slice a n c:=by simpa using e
 obtain ⟨La,rfl,h2,h3⟩:=Cl (L:=L) hx ho
 have hn:n=La.length:=by
  have hl:=congrArg List.length h2
  rw [List.length_map,List.length_map] at hl
  rw [hl];exact hn
 exact ⟨a,n,c,La,e,⟨hs,hn,hr.1,fun x hx=>⟨(h3 x hx).1,(h3 x hx).2.1⟩⟩,h2⟩
def yj {R:Option Addr→List Value→Prop}:∀{La:List Ac},(∀q∈La,q.fit∧R (pt q.a q.n) (ah q.l))→bK (aW R aX) ((La.map jg).map kB) (aF La)
 | [],_=>rfl
 | q::La,h=>by
  obtain ⟨⟨hs,hn,_,_⟩,hr⟩:=h q List.mem_cons_self
  refine ⟨q.cs,aF La,rfl,?_,yj fun z hz=>h z (List.mem_cons_of_mem _ hz)⟩
  exact ⟨[.int .i64 q.s],[.int .i64 q.b,.slice q.a q.n q.c],rfl,rfl,[.int .i64 q.b],[.slice q.a q.n q.c],rfl,rfl,[.slice q.a q.n q.c],[],rfl,⟨q.a,q.n,q.c,ah q.l,rfl,hs,by rw [hn];exact (List.length_map (f:=fK)).symm,sQ q.l,hr⟩,rfl⟩
def Im {w w':World} {O:Nat→Prop} {La:List Ac} {a:Option Addr} {c:Nat} (hs:Sl a La.length c) (hf:∀q∈La,q.fit) (h:∀φ∈dm a La.length La,∀g,φ.g=some g→w.heap.size≤g∧∃o,w'.heap[g]?=some o∧φ.holds o) :
  fY (Ar w' fun g=>w.heap.size≤g∨O g) pe ((La.map jg).map kB) (.slice a La.length c):=
 ⟨a,_,c,aF La,rfl,hs,(by show La.length=((La.map jg).map kB).length;simp),yj fun q hq=>⟨hf q hq,fun g hg=>(h _ (List.mem_cons_of_mem _ (List.mem_map_of_mem hq)) g hg).2,fun g hg=>.inl (h _ (List.mem_cons_of_mem _ (List.mem_map_of_mem hq)) g hg).1⟩,fun g hg=>(h _ (.head _) g hg).2,fun g hg=>.inl (h _ (.head _) g hg).1⟩
def Ct:bI:=⟨[l8,.int],[aX],fun x=>bif decide (List.length (α:=Den aX) x.1.1≤100000)&&List.all (α:=Den aX) x.1.1 A7 then some (kB (oe (List.map (α:=Den aX) cX x.1.1) x.2.1),()) else none⟩
def G3 (B:World→Prop):Ct.fG.Ok Tryz.prog B 136:=by
 intro O w x vs hw hp hl
 obtain ⟨⟨L,v,u⟩,k,u2⟩:=x
 obtain ⟨y,us,rfl,⟨cs,rfl,v1,v2,rfl,h1,v3,v4,rfl,h2,h3⟩,y2,us2,rfl,h4,h5⟩:=hl
 have h2:v3=[.int .i64 v]:=h2
 have h3:v4=[]:=h3
 have h4:y2=.int .i64 k:=h4
 have h5:us2=[]:=h5
 subst h2 h3 h4 h5
 have hp:(bif decide (List.length (α:=Den aX) L≤100000)&&List.all (α:=Den aX) L A7 then some ((kB (oe (List.map (α:=Den aX) cX L) k),()):af [aX]) else none).isSome=true:=hp
 cases hd:(decide (List.length (α:=Den aX) L≤100000)&&List.all (α:=Den aX) L A7) with
 | false=>rw [hd] at hp;cases hp
 | true=>
  have hF:Ct.fG.F ((L,v,u),k,u2)=(kB (oe (List.map (α:=Den aX) cX L) k),()):=by
   show (bif decide (List.length (α:=Den aX) L≤100000)&&List.all (α:=Den aX) L A7 then some ((kB (oe (List.map (α:=Den aX) cX L) k),()):af [aX]) else none).getD _=_
   rw [hd];rfl
  obtain ⟨d1,d2⟩:=Bool.and_eq_true_iff.1 hd
  obtain ⟨a,n,c,xs,rfl,q1⟩:=h1
  obtain ⟨a',n',c',La,e,hA,hm⟩:=wS (L:=L) (y:=.slice a n c) ⟨a,n,c,xs,rfl,q1⟩ d2
  cases e
  have hn:n≤1000000:=by
   have h1:=hA.2.1
   have hl:=congrArg List.length hm
   have hl2:(List.map (α:=Den aX) cX L).length=List.length (α:=Den aX) L:=List.length_map _
   rw [List.length_map,hl2] at hl
   have:=of_decide_eq_true d1
   omega
  refine (get v La a n c k w hA hn).mono ?_
  rintro e w' ⟨i,hs2,rfl,hb,hg⟩
  refine ⟨[_],rfl,hb,_,_,rfl,?_,rfl⟩
  rw [hF,← hm]
  exact AM hs2 (hg _ (.head _))
def mN:List (Den l8)→List (Den aX)
 | []=>[]
 | x::S=>List.append (α:=Den aX) x.1 (mN S)
def vN (x:Den l8) (S:List (Den l8)):mN (x::S)=(show List (Den aX) from x.1)++mN S:=rfl
def K4 {w:World} {O:Nat→Prop} {x:Den l8} {xs:List Value} (h:aW (Ar w O) l8 x xs) (ho:List.all (α:=Den aX) x.1 A7=true):∃q:yg,xs=q.cs∧zB w q.a q.n q.c q.L∧q.L.map jg=List.map (α:=Den aX) cX x.1:=by
 obtain ⟨L,v,u⟩:=x
 obtain ⟨v1,v2,rfl,⟨a,n,c,zs,rfl,q⟩,v3,v4,rfl,h2,h3⟩:=h
 have h2:v3=[.int .i64 v]:=h2
 have h3:v4=[]:=h3
 subst h2 h3
 obtain ⟨a',n',c',La,e,hA,hm⟩:=wS (L:=L) (y:=.slice a n c) ⟨a,n,c,zs,rfl,q⟩ ho
 cases e
 exact ⟨⟨a,n,c,La,v⟩,rfl,hA,hm⟩
def BH {w:World} {O:Nat→Prop}:∀{S:List (Den l8)} {xs:List Value},bK (aW (Ar w O) l8) S xs→(mN S).all A7=true→∃Sd:List yg,xs=si Sd∧Sd.length=S.length∧(∀q∈Sd,zB w q.a q.n q.c q.L)∧(dS Sd).map jg=(mN S).map cX
 | [],xs,h,_=>⟨[],h,rfl,by simp,rfl⟩
 | x::S,xs,⟨v1,v2,e,h1,h2⟩,ho=>by
  rw [vN,List.all_append,Bool.and_eq_true] at ho
  obtain ⟨q,e1,e2,e3⟩:=K4 h1 ho.1
  obtain ⟨Sd,k1,k2,k3,k4⟩:=BH h2 ho.2
  refine ⟨q::Sd,by rw [e,e1,k1];rfl,by simp [k2],fun z hz=>?_,?_⟩
  ·rcases List.mem_cons.1 hz with rfl | hz
   ·exact e2
   ·exact k3 z hz
  ·unfold dS at *
   rw [List.flatMap_cons,vN,List.map_append,List.map_append,e3,k4]
def M7 (S:List (Den l8)):Bool:=decide (S.length≤100000)&&(decide ((mN S).length≤100000)&&((mN S).all A7&&(mN S).all fun x=>dx x.1))
def uf (S:List (Den l8)):List PA:=zu (fun p:PA=>p.1) ((mN S).map cX)
def wT:bI:=⟨[.row l8],[pe],fun x=>bif M7 x.1 then some ((uf x.1).map kB,()) else none⟩
def Dj (B:World→Prop):wT.fG.Ok Tryz.prog B 153:=by
 intro O w x vs hw hp hl
 obtain ⟨S,u⟩:=x
 obtain ⟨y,us,rfl,⟨a,n,c,xs,e,hs,hn,hx,hr⟩,h5⟩:=hl
 have h5:us=[]:=h5
 have e:y=.slice a n c:=by simpa using e
 subst h5 e
 have hp:(bif M7 S then some (((uf S).map kB,()):af [pe]) else none).isSome=true:=hp
 cases hd:M7 S with
 | false=>rw [hd] at hp;cases hp
 | true=>
  have hF:wT.fG.F (S,u)=((uf S).map kB,()):=by
   show (bif M7 S then some (((uf S).map kB,()):af [pe]) else none).getD _=_
   rw [hd];rfl
  unfold M7 at hd
  simp only [Bool.and_eq_true,decide_eq_true_eq] at hd
  obtain ⟨d1,d2,d3,d4⟩:=hd
  obtain ⟨Sd,rfl,k2,k3,k4⟩:=BH (S:=S) hx d3
  have hl:=congrArg List.length k4
  rw [List.length_map,List.length_map] at hl
  have hn:n=S.length:=hn
  refine (join Sd a n c w ⟨hs,by rw [hn,k2],hr.1,k3⟩ (by omega) (by omega) (fun x hx=>?_)).mono ?_
  ·have:jg x∈(mN S).map cX:=by rw [← k4];exact List.mem_map_of_mem hx
   obtain ⟨z,hz,e⟩:=List.mem_map.1 this
   have h1:=(List.all_eq_true.1 d4) z hz
   have e:z.1=x.s:=congrArg (fun p:PA=>p.1) e
   have h1:dx z.1=true:=h1
   rw [e] at h1
   have:=kr.1 h1
   exact ⟨this.1,by omega⟩
  ·rintro e w' ⟨i,Ls,hm,hf,hs2,rfl,hb,hg⟩
   refine ⟨[_],rfl,hb,_,_,rfl,?_,rfl⟩
   rw [hF]
   have e1:uf S=Ls.map jg:=by
    rw [hm,Co (fun x:Ac=>x.s) (fun p:PA=>p.1) jg (fun _=>rfl),k4];rfl
   rw [e1]
   exact Im hs2 hf hg
def Hj (l:List PA) (x:PA):List PA:=if l.any (fun y=>y.1==x.1) then l else l++[x]
def ry (P:List PA):List PA:=P.foldl Hj []
def Fo (L:List Ac):∀l:List Ac,(L.foldl Zv l).map jg=(L.map jg).foldl Hj (l.map jg):=by
 induction L with
 | nil=>intro l;rfl
 | cons x L ih=>
  intro l
  rw [List.foldl_cons,ih,List.map_cons,List.foldl_cons]
  congr 1
  unfold Zv Hj
  have:(l.map jg).any (fun y=>y.1==(jg x).1)=l.any fun y=>y.s==x.s:=by rw [List.any_map];rfl
  rw [this]
  split
  ·rfl
  ·rw [List.map_append];rfl
def bg (P:List PA) (gas:Int):List Tx:=gH ((ry P).map fun p=>cj p.2.1 p.2.2) gas
def tK (L:List Ac) (gas:Int):aV L gas=bg (L.map jg) gas:=by
 unfold aV bg ry aA
 rw [show ([]:List PA)=([]:List Ac).map jg from rfl,← Fo,List.map_map]
 rfl
def rW (L:List (Den aX)) (g:Int):Bool:=decide (L.length≤1000000)&&(L.all A7&&(dx g&&decide ((bg (L.map cX) g).length≤1000000)))
def dN:bI:=⟨[pe,.int],[.row cg],fun x=>bif rW x.1 x.2.1 then some ((bg (List.map (α:=Den aX) cX x.1) x.2.1).map fK,()) else none⟩
def uT:dN.fG.Ok Tryz.prog bA 145:=by
 intro O w x vs hw hp hl
 obtain ⟨L,g,u⟩:=x
 obtain ⟨y,us,rfl,h1,y2,us2,rfl,h4,h5⟩:=hl
 have h4:y2=.int .i64 g:=h4
 have h5:us2=[]:=h5
 subst h4 h5
 have hp:(bif rW L g then some (((bg (List.map (α:=Den aX) cX L) g).map fK,()):af [.row cg]) else none).isSome=true:=hp
 cases hd:rW L g with
 | false=>rw [hd] at hp;cases hp
 | true=>
  have hF:dN.fG.F (L,g,u)=((bg (List.map (α:=Den aX) cX L) g).map fK,()):=by
   show (bif rW L g then some (((bg (List.map (α:=Den aX) cX L) g).map fK,()):af [.row cg]) else none).getD _=_
   rw [hd];rfl
  unfold rW at hd
  simp only [Bool.and_eq_true,decide_eq_true_eq] at hd
  obtain ⟨d1,d2,d3,d4⟩:=hd
  obtain ⟨a,n,c,La,rfl,hA,hm⟩:=wS (L:=L) h1 d2
  have hl:=congrArg List.length hm
  have hl2:(List.map (α:=Den aX) cX L).length=List.length (α:=Den aX) L:=List.length_map _
  rw [List.length_map,hl2] at hl
  have hn:=hA.2.1
  have e1:aV La g=bg (L.map cX) g:=(tK La g).trans (congrArg (fun P=>bg P g) hm)
  have h3:=kr.1 d3
  refine (aL.template La g a n c w hw hA (by omega) ⟨h3.1,h3.2⟩ (by rw [e1];exact d4)).mono ?_
  rintro e w' ⟨i,hs2,rfl,hb,hg⟩
  refine ⟨[_],rfl,hb,_,_,rfl,?_,rfl⟩
  rw [hF]
  rw [e1] at hs2 hg ⊢
  refine ⟨i.1,_,i.2,ah (bg (L.map cX) g),rfl,hs2,?_,sQ _,fun z hz=>(hg _ (.head _) z hz).2,fun z hz=>.inl (hg _ (.head _) z hz).1⟩
  exact (List.length_map (f:=fK)).symm
end Go.Proofs.YtdbjakibneeeiaaGreatDoor.ax
namespace Go.Proofs.YtdbjakibneeeiaaGreatDoor.Sx
open Go.RowKit
def EE.Jm {D:DE} {E E':Env} {P:Program} {B:World→Prop} (hD:D.nq E P B E'):D.nq E P B { E' with turns:=true }:=
 ⟨hD.ok,hD.zero,hD.agg,hD.str,hD.keep,⟨hD.eok.zero,hD.eok.agg1,hD.eok.aggN,hD.eok.off,hD.eok.row,hD.eok.str,hD.eok.strs,hD.eok.ints,hD.eok.size,hD.eok.mixed,hD.eok.row1,hD.eok.meth,hD.eok.arr⟩⟩
def EE.OL {D:DE} {E E':Env} {P:Program} {B:World→Prop} (hD:D.nq E P B { E' with turns:=true }):D.nq E P B E':=
 ⟨hD.ok,hD.zero,hD.agg,hD.str,hD.keep,⟨hD.eok.zero,hD.eok.agg1,hD.eok.aggN,hD.eok.off,hD.eok.row,hD.eok.str,hD.eok.strs,hD.eok.ints,hD.eok.size,hD.eok.mixed,hD.eok.row1,hD.eok.meth,hD.eok.arr⟩⟩
universe u
variable {α β R S : Type}
def xb (m:Option α) (k:α→Option R):Option R:=match m with | some y=>k y | none=>none
def uM (L:List α):Option (List α):=bif decide (L.length≤1000000) then some L else none
def okm (j c:Int) (bytes:Nat):Bool:=decide (0≤j)&&decide (j=c)&&decide (j≤140737488355328)&&Nat.ble (bytes*j.toNat) 140737488355328
def Jy {x:α} {f:α→Option R} {g:β→Option R}:xs (.inl x) f g=f x:=rfl
def wH {o:Option R}:gd true o=o:=rfl
def sR {x y:Option R}:az true x y=x:=rfl
def pq {x y:Option R}:az false x y=y:=rfl
def iB {L:List α} (h:L.length≤1000000):uM L=some L:=by unfold uM;rw [decide_eq_true h];rfl
def a1x {j c:Int} {b:Nat}:okm j c b=true↔0≤j∧j=c∧j≤140737488355328∧b*j.toNat≤140737488355328:=by
 simp [okm,and_assoc]
def aa (o:Option R) (Q:R→Prop):Prop:=∃r,o=some r∧Q r
namespace aa
variable {Q : R → Prop} {o o' : Option R}
def ret {r:R} (h:Q r):aa (some r) Q:=⟨r,rfl,h⟩
def eq {r:R} (h:o=Option.some r) (hq:Q r):aa o Q:=⟨r,h,hq⟩
def mono {Q':R→Prop} (h:aa o Q) (k:∀r,Q r→Q' r):aa o Q':=h.imp fun r ⟨e,q⟩=>⟨e,k r q⟩
def gd {c:Bool} (hc:c=true) (h:aa o Q):aa (gd c o) Q:=by subst hc;exact h
def br {c:Bool} (h1:c=true→aa o Q) (h2:c=false→aa o' Q):aa (az c o o') Q:=by
 cases c
 ·exact h2 rfl
 ·exact h1 rfl
def xb {m:Option α} {k:α→Option R} {P:α→Prop} (h:aa m P) (hk:∀y,P y→aa (k y) Q):aa (xb m k) Q:=by
 obtain ⟨y,rfl,hy⟩:=h
 exact hk y hy
def gj {m:Option α} {k:α→Option R} {y:α} (h:m=Option.some y) (hk:aa (k y) Q):aa (Sx.xb m k) Q:=by rw [h];exact hk
def loop {step:S→Option (S ⊕ R)} (I:S→Prop) (μ:S→Nat) (h:∀s,I s→aa (step s) fun x=>match x with | .inl s'=>I s'∧μ s'<μ s | .inr r=>Q r) {s:S} (hs:I s):∀{n:Nat},μ s<n→aa (b6 step n s) Q:=by
 intro n
 induction n generalizing s with
 | zero=>intro h;omega
 | succ n ih=>
  intro hn
  obtain ⟨x,e,hx⟩:=h s hs
  have e1:b6 step (n+1) s=match step s with | some (.inl y)=>b6 step n y | some (.inr r)=>some r | none=>none:=by kernel_rfl
  rw [e1,e]
  cases x with
  | inl y=>exact ih hx.1 (Nat.lt_of_lt_of_le hx.2 (Nat.le_of_lt_succ hn))
  | inr r=>exact ⟨r,rfl,hx⟩
end aa
def aa.of_eq {Q:R→Prop} {o:Option R} {r:R} (h:aa o (· = r)):o=some r:=by
 obtain ⟨x,e,h⟩:=h
 rw [e,h]
def dO {step:S→Option (S ⊕ R)} {n:Nat} {s:S}:b6 step (n+1) s=match step s with | some (.inl y)=>b6 step n y | some (.inr r)=>some r | none=>none:=by kernel_rfl
end Go.Proofs.YtdbjakibneeeiaaGreatDoor.Sx
namespace Go.Proofs.YtdbjakibneeeiaaGreatDoor.Em
open Go.RowKit Sx queue
def uK (g ph i tr:Int) (a1:Option Addr) (n1 c1:Nat) (a2:Option Addr) (n2 c2:Nat) (er s n t c gs:Int) (d:ByteArray) (a3:Option Addr) (n3 c3:Nat) (sl:Int):Value:=
 .agg #[.int .i64 g,.int .i64 ph,.int .i64 i,.int .i64 tr,.slice a1 n1 c1,.slice a2 n2 c2,.int .i64 er,.int .i64 s,.int .i64 n,.int .i64 t,.int .i64 c,.int .i64 gs,.string d,.slice a3 n3 c3,.int .i64 sl]
def gU (v:Value):List (Int×Value):=[(0,.func (.func 76) #[v] #[]),(1,.func (.func 77) #[v] #[]),(2,.func (.func 78) #[v] #[]),(3,.func (.func 79) #[v] #[]),(4,.func (.func 80) #[v] #[]),(5,.func (.func 81) #[v] #[])]
def ways (g ph i tr:Int) (a1:Option Addr) (n1 c1:Nat) (a2:Option Addr) (n2 c2:Nat) (er s n t c gs:Int) (d:ByteArray) (a3:Option Addr) (n3 c3:Nat) (sl:Int) (w:World) :
  Calls Tryz.prog 37 (List.toArray [uK g ph i tr a1 n1 c1 a2 n2 c2 er s n t c gs d a3 n3 c3 sl]) w fun e w'=>∃q:Nat,dy w w' e (.map (some q)) [bL q (gU (uK g ph i tr a1 n1 c1 a2 n2 c2 er s n t c gs d a3 n3 c3 sl))]:=by
 refine au gI.aq.keeps Tryz.func37 rfl [] (aQ _ _ (by kernel_rfl)) [] (by simp) ?_
 conv=>arg 5;whnf
 refine jP rfl (fun q hq=>?_)
 conv=>arg 5;whnf
 refine gK (g:=q) (l:=((gU (uK g ph i tr a1 n1 c1 a2 n2 c2 er s n t c gs d a3 n3 c3 sl)).take 0)) (x:=0) (v:=.func (.func 76) #[(uK g ph i tr a1 n1 c1 a2 n2 c2 er s n t c gs d a3 n3 c3 sl)] #[]) [bL q ((gU (uK g ph i tr a1 n1 c1 a2 n2 c2 er s n t c gs d a3 n3 c3 sl)).take 1)] rfl rfl rfl rfl Tryz.underlying101 Tryz.underlying3 (.head _) (.inl hq) (fun ψ hψ=>by simp only [List.mem_singleton] at hψ;exact .inr hψ) ?_
 conv=>arg 5;whnf
 refine gK (g:=q) (l:=((gU (uK g ph i tr a1 n1 c1 a2 n2 c2 er s n t c gs d a3 n3 c3 sl)).take 1)) (x:=1) (v:=.func (.func 77) #[(uK g ph i tr a1 n1 c1 a2 n2 c2 er s n t c gs d a3 n3 c3 sl)] #[]) [bL q ((gU (uK g ph i tr a1 n1 c1 a2 n2 c2 er s n t c gs d a3 n3 c3 sl)).take 2)] rfl rfl rfl rfl Tryz.underlying101 Tryz.underlying3 (.head _) (.inl hq) (fun ψ hψ=>by simp only [List.mem_singleton] at hψ;exact .inr hψ) ?_
 conv=>arg 5;whnf
 refine gK (g:=q) (l:=((gU (uK g ph i tr a1 n1 c1 a2 n2 c2 er s n t c gs d a3 n3 c3 sl)).take 2)) (x:=2) (v:=.func (.func 78) #[(uK g ph i tr a1 n1 c1 a2 n2 c2 er s n t c gs d a3 n3 c3 sl)] #[]) [bL q ((gU (uK g ph i tr a1 n1 c1 a2 n2 c2 er s n t c gs d a3 n3 c3 sl)).take 3)] rfl rfl rfl rfl Tryz.underlying101 Tryz.underlying3 (.head _) (.inl hq) (fun ψ hψ=>by simp only [List.mem_singleton] at hψ;exact .inr hψ) ?_
 conv=>arg 5;whnf
 refine gK (g:=q) (l:=((gU (uK g ph i tr a1 n1 c1 a2 n2 c2 er s n t c gs d a3 n3 c3 sl)).take 3)) (x:=3) (v:=.func (.func 79) #[(uK g ph i tr a1 n1 c1 a2 n2 c2 er s n t c gs d a3 n3 c3 sl)] #[]) [bL q ((gU (uK g ph i tr a1 n1 c1 a2 n2 c2 er s n t c gs d a3 n3 c3 sl)).take 4)] rfl rfl rfl rfl Tryz.underlying101 Tryz.underlying3 (.head _) (.inl hq) (fun ψ hψ=>by simp only [List.mem_singleton] at hψ;exact .inr hψ) ?_
 conv=>arg 5;whnf
 refine gK (g:=q) (l:=((gU (uK g ph i tr a1 n1 c1 a2 n2 c2 er s n t c gs d a3 n3 c3 sl)).take 4)) (x:=4) (v:=.func (.func 80) #[(uK g ph i tr a1 n1 c1 a2 n2 c2 er s n t c gs d a3 n3 c3 sl)] #[]) [bL q ((gU (uK g ph i tr a1 n1 c1 a2 n2 c2 er s n t c gs d a3 n3 c3 sl)).take 5)] rfl rfl rfl rfl Tryz.underlying101 Tryz.underlying3 (.head _) (.inl hq) (fun ψ hψ=>by simp only [List.mem_singleton] at hψ;exact .inr hψ) ?_
 conv=>arg 5;whnf
 refine gK (g:=q) (l:=((gU (uK g ph i tr a1 n1 c1 a2 n2 c2 er s n t c gs d a3 n3 c3 sl)).take 5)) (x:=5) (v:=.func (.func 81) #[(uK g ph i tr a1 n1 c1 a2 n2 c2 er s n t c gs d a3 n3 c3 sl)] #[]) [bL q ((gU (uK g ph i tr a1 n1 c1 a2 n2 c2 er s n t c gs d a3 n3 c3 sl)).take 6)] rfl rfl rfl rfl Tryz.underlying101 Tryz.underlying3 (.head _) (.inl hq) (fun ψ hψ=>by simp only [List.mem_singleton] at hψ;exact .inr hψ) ?_
 conv=>arg 5;whnf
 exact av fun β ρ w' hM'=>⟨q,rfl,hM'.below,fun φ hφ g' hg'=>by simp only [List.mem_singleton] at hφ;subst hφ;cases hg';exact ⟨hq,(hM'.fact _ (.head _) q rfl).2⟩⟩
end Go.Proofs.YtdbjakibneeeiaaGreatDoor.Em
namespace Go.Proofs.YtdbjakibneeeiaaGreatDoor.Sx
open Go.RowKit
variable {P : Program} {B : World → Prop} {W : World} {Q : Ending → World → Prop} {ds : List Deferred}
def D8 {β ρ} {w:World} {m:M} (hM:Mem W none m β ρ w) {l:List Sh} {x:af l} {vs:List Value} (hl:cn (eC m.facts) l x vs):cn (Ar w fun g=>∃ψ∈m.facts,ψ.g=some g) l x vs:=
 cn.mono (fun a xs h=>by
  refine ⟨kN hM a xs h,fun g hg=>?_⟩
  rcases h with rfl | ⟨φ,h1,h2,_⟩
  ·cases hg
  ·exact ⟨φ,h1,h2.trans hg⟩) hl
end Go.Proofs.YtdbjakibneeeiaaGreatDoor.Sx
namespace Go.Proofs.YtdbjakibneeeiaaGreatDoor.Sx
open Go.RowKit
structure Bp where
 a:Option Addr
 n:Nat
 c:Nat
def Bp.v (q:Bp):Value:=.slice q.a q.n q.c
def Wj:Bp:=⟨none,0,0⟩
mutual
def nA:(s:Sh)→Den s→List Bp→List Value×List Bp
 | .int,x,r=>([.int .i64 x],r)
 | .bool,x,r=>([.bool x],r)
 | .str,x,r=>([.string x],r)
 | .num _,x,r=>([x],r)
 | .flat l,x,r=>j4 l x r
 | .row e,x,r=>match r with
  | q::r=>([q.v],r)
  | []=>([Wj.v],[])
termination_by structural s=>s
def j4:(l:List Sh)→af l→List Bp→List Value×List Bp
 | [],_,r=>([],r)
 | s::l,x,r=>((nA s x.1 r).1++(j4 l x.2 (nA s x.1 r).2).1,(j4 l x.2 (nA s x.1 r).2).2)
termination_by structural l=>l
end
mutual
def EA:Sh→Nat
 | .flat l=>xI l
 | .row _=>1
 | _=>0
termination_by structural s=>s
def xI:List Sh→Nat
 | []=>0
 | s::l=>EA s+xI l
termination_by structural l=>l
end
mutual
def DH {R:Option Addr→List Value→Prop}:∀{s:Sh} {x:Den s} {vs:List Value},aW R s x vs→∃sl:List Bp,sl.length=EA s∧∀r,nA s x (sl++r)=(vs,r)
 | .int,x,vs,h=>by have h:vs=[.int .i64 x]:=h;subst h;exact ⟨[],rfl,fun r=>rfl⟩
 | .bool,x,vs,h=>by have h:vs=[.bool x]:=h;subst h;exact ⟨[],rfl,fun r=>rfl⟩
 | .str,x,vs,h=>by have h:vs=[.string x]:=h;subst h;exact ⟨[],rfl,fun r=>rfl⟩
 | .num k,x,vs,h=>by have h:vs=[x]:=h.1;subst h;exact ⟨[],rfl,fun r=>rfl⟩
 | .flat l,x,vs,h=>nT (l:=l) h
 | .row e,x,vs,⟨a,n,c,xs,e1,_⟩=>⟨[⟨a,n,c⟩],rfl,fun r=>by rw [e1];rfl⟩
def nT {R:Option Addr→List Value→Prop}:∀{l:List Sh} {x:af l} {vs:List Value},dz R l x vs→∃sl:List Bp,sl.length=xI l∧∀r,j4 l x (sl++r)=(vs,r)
 | [],x,vs,h=>by have h:vs=[]:=h;subst h;exact ⟨[],rfl,fun r=>rfl⟩
 | s::l,x,vs,⟨v1,v2,e,h1,h2⟩=>by
  obtain ⟨sl,k1,k2⟩:=DH h1
  obtain ⟨sl2,k3,k4⟩:=nT h2
  refine ⟨sl++sl2,?_,fun r=>?_⟩
  ·rw [List.length_append,k1,k3];rfl
  ·show ((nA s x.1 (sl++sl2++r)).1++(j4 l x.2 (nA s x.1 (sl++sl2++r)).2).1,(j4 l x.2 (nA s x.1 (sl++sl2++r)).2).2)=(vs,r)
   rw [List.append_assoc,k2,k4,e]
end
def MT (l:List Sh) (x:af l) (sl:List Bp):Value:=.agg (List.toArray (j4 l x sl).1)
def GS {R:Option Addr→List Value→Prop} {l:List Sh} {x:af l} {y:Value} (h:fY R (.flat l) x y):∃sl:List Bp,sl.length=xI l∧y=MT l x sl:=by
 obtain ⟨cs,e,h⟩:=h
 obtain ⟨sl,h1,h2⟩:=nT h
 refine ⟨sl,h1,?_⟩
 have:=h2 []
 rw [List.append_nil] at this
 unfold MT
 rw [e,this]
def AQ:(s:Sh)→Den s→List Bp→Value
 | .flat l,x,sl=>.agg (List.toArray (j4 l x sl).1)
 | .int,x,_=>.int .i64 x
 | .bool,x,_=>.bool x
 | .str,x,_=>.string x
 | .num _,x,_=>x
 | .row _,_,sl=>(sl.headD Wj).v
def iM {R:Option Addr→List Value→Prop} {s:Sh} {x:Den s} {y:Value} (h:fY R s x y):∃sl:List Bp,sl.length=EA s∧y=AQ s x sl:=by
 cases s with
 | flat l=>exact GS h
 | int=>exact ⟨[],rfl,h⟩
 | bool=>exact ⟨[],rfl,h⟩
 | str=>exact ⟨[],rfl,h⟩
 | num k=>exact ⟨[],rfl,h.1⟩
 | row e=>
  obtain ⟨a,n,c,xs,e1,_⟩:=h
  have e2:y=.slice a n c:=by simpa using e1
  exact ⟨[⟨a,n,c⟩],rfl,e2⟩
def HM {l:List Bp} (h:l.length=2):∃a n c a2 n2 c2,l=[⟨a,n,c⟩,⟨a2,n2,c2⟩]:=by
 match l,h with
 | [⟨a,n,c⟩,⟨a2,n2,c2⟩],_=>exact ⟨a,n,c,a2,n2,c2,rfl⟩
def Is {l:List Bp} (h:l.length=3):∃a n c a2 n2 c2 a3 n3 c3,l=[⟨a,n,c⟩,⟨a2,n2,c2⟩,⟨a3,n3,c3⟩]:=by
 match l,h with
 | [⟨a,n,c⟩,⟨a2,n2,c2⟩,⟨a3,n3,c3⟩],_=>exact ⟨a,n,c,a2,n2,c2,a3,n3,c3,rfl⟩
section
variable {P : Program} {B : World → Prop} {W : World} {Q : Ending → World → Prop} {ds : List Deferred} {N : Nat → Prop}
def gm:Fact:=ay none []
def CA {gs:List Fact}:∀a xs,eC gs a xs→eC (gm::gs) a xs:=fun a xs k=>k.mono fun _ h=>.tail _ h
def nO (W:World) (N:Nat→Prop) (fs:List Fact):Prop:=∀φ∈fs,∀g,φ.g=some g→W.heap.size≤g∨N g
def nO.VY {fs:List Fact} (h:nO W N fs):nO W N (gm::fs):=fun φ hφ g hg=>by
 rcases List.mem_cons.1 hφ with rfl | hφ
 ·cases hg
 ·exact h φ hφ g hg
def nO.app {fs gs:List Fact} (h:nO W N fs) (k:nO W N gs):nO W N (fs++gs):=fun φ hφ=>(List.mem_append.1 hφ).elim (h φ) (k φ)
def P3 {g:FuncId} {S:B4} {x:af S.ps} {vs:List Value} {ts:List T} {m:M} {k:Value→List Fact→Tree} (hg:aP P g=true∧S.Ok P B g) (hB:∀w,Below W.heap.size W w→B w) (hN:nO W N m.facts) (hpre:S.pre x) (hl:cn (eC m.facts) S.ps x vs) (hts:aH ts=some vs)
  (K:∀us gs,cn (eC (gm::gs)) S.rs (S.F x) us→nO W N gs→(k (YO us) (gm::gs)).aD P W none Q ds):(Tree.call g ts m k).aD P W none Q ds:=
 ⟨hg.1,fun β ρ w us hM hr=>by
  rw [aE _ _ _ hts hr]
  refine (hg.2 _ w x vs (hB w hM.below) hpre (D8 hM hl)).mono ?_
  rintro e w' ⟨us,rfl,hb,hu⟩
  obtain ⟨gs,h1,h2⟩:=cn.got hu
  refine ⟨YO us,gm::gs,rfl,hb,?_,K us gs (cn.mono CA h1) ?_⟩
  ·intro φ hφ g hg
   rcases List.mem_cons.1 hφ with rfl | hφ
   ·cases hg
   obtain ⟨a,ys,rfl,h3,h4⟩:=h2 φ hφ
   refine ⟨?_,h3 g hg⟩
   rcases h4 g hg with h5 | h5
   ·exact .inr (.inl h5)
   ·exact .inr (.inr h5)
  ·intro φ hφ g hg
   obtain ⟨a,ys,rfl,h3,h4⟩:=h2 φ hφ
   rcases h4 g hg with h5 | ⟨ψ,h6,h7⟩
   ·exact .inl (Nat.le_trans hM.below.size h5)
   ·exact hN ψ h6 g h7⟩
def opN {o:Oper} {m:M} {t:List T} {k:M→List T→T→Tree} {f:Operand} {g:FuncId} {first:Array Value} {args:Array Operand} {tys:Array TypeId} {l:List Value} {S:B4} {x:af S.ps}
  (hg:aP P g=true∧S.Ok P B g) (ho:o.op=.call ⟨.value f,args,tys⟩) (hf:ev t f=.v (.func (.func g) first #[])) (hv:aH (args.toList.map (ev t))=some l) (hB:∀w,Below W.heap.size W w→B w) (hN:nO W N m.facts) (hpre:S.pre x) (hl:cn (eC m.facts) S.ps x (first.toList++l))
  (K:∀us gs,cn (eC (gm::gs)) S.rs (S.F x) us→nO W N gs→(k { m with facts:=gm::gs++m.facts } t (.v (YO us))).aD P W none Q ds):(Tree.op none o m t k).aD P W none Q ds:=
 Zu ho hf hv hg.1 fun β ρ w hm=>by
  have e:first++List.toArray l=List.toArray (first.toList++l):=by simp
  rw [e]
  refine (hg.2 _ w x _ (hB w hm.below) hpre (D8 hm hl)).mono ?_
  rintro e w' ⟨us,rfl,hb,hu⟩
  obtain ⟨gs,h1,h2⟩:=cn.got hu
  refine ⟨YO us,{ m with facts:=gm::gs++m.facts },rfl,(hm.grow hb).eA (gm::gs) (fun φ hφ g hg=>?_),K us gs (cn.mono CA h1) ?_⟩
  ·rcases List.mem_cons.1 hφ with rfl | hφ
   ·cases hg
   obtain ⟨a,ys,rfl,h3,h4⟩:=h2 φ hφ
   refine ⟨hm.apart ?_,h3 g hg⟩
   rcases h4 g hg with h5 | h5
   ·exact .inr (.inl h5)
   ·exact .inr (.inr h5)
  ·intro φ hφ g hg
   obtain ⟨a,ys,rfl,h3,h4⟩:=h2 φ hφ
   rcases h4 g hg with h5 | ⟨ψ,h6,h7⟩
   ·exact .inl (Nat.le_trans hm.below.size h5)
   ·exact hN ψ h6 g h7
def bI.wO {S:bI} {x:af S.ps} {r:af S.rs} (h:S.F x=some r):S.fG.pre x∧S.fG.F x=r:=by
 constructor
 ·show (S.F x).isSome=true
  rw [h];rfl
 ·show (S.F x).getD _=r
  rw [h];rfl
def wu {g:FuncId} {S:bI} {x:af S.ps} {r:af S.rs} {vs:List Value} {ts:List T} {m:M} {k:Value→List Fact→Tree} (hr:S.F x=some r) (hg:aP P g=true∧S.fG.Ok P B g) (hB:∀w,Below W.heap.size W w→B w) (hN:nO W N m.facts) (hl:cn (eC m.facts) S.ps x vs) (hts:aH ts=some vs)
  (K:∀us gs,cn (eC (gm::gs)) S.rs r us→nO W N (gm::gs)→(k (YO us) (gm::gs)).aD P W none Q ds):(Tree.call g ts m k).aD P W none Q ds:=
 P3 (S:=S.fG) hg hB hN (bI.wO hr).1 hl hts (fun us gs h hN1=>K us gs (by rw [(bI.wO hr).2] at h;exact h) hN1.VY)
def opE {o:Oper} {m:M} {t:List T} {k:M→List T→T→Tree} {f:Operand} {g:FuncId} {first:Array Value} {args:Array Operand} {tys:Array TypeId} {l:List Value} {S:bI} {x:af S.ps} {r:af S.rs} (hr:S.F x=some r)
  (hg:aP P g=true∧S.fG.Ok P B g) (ho:o.op=.call ⟨.value f,args,tys⟩) (hf:ev t f=.v (.func (.func g) first #[])) (hv:aH (args.toList.map (ev t))=some l) (hB:∀w,Below W.heap.size W w→B w) (hN:nO W N m.facts) (hl:cn (eC m.facts) S.ps x (first.toList++l))
  (K:∀us gs,cn (eC (gm::gs)) S.rs r us→nO W N (gm::gs)→(k { m with facts:=gm::gs++m.facts } t (.v (YO us))).aD P W none Q ds):(Tree.op none o m t k).aD P W none Q ds:=
 opN (S:=S.fG) hg ho hf hv hB hN (bI.wO hr).1 hl (fun us gs h hN1=>K us gs (by rw [(bI.wO hr).2] at h;exact h) hN1.VY)
def C5 {m:M} {β ρ} {w':World} (hM:Mem W none m β ρ w') (hN:nO W N m.facts) {l:List Sh} {x:af l} {vs:List Value} (hl:cn (eC m.facts) l x vs):cn (Ar w' fun g=>W.heap.size≤g∨N g) l x vs:=
 cn.mono (fun a xs h=>⟨kN hM a xs h,fun g hg=>by
  rcases h with rfl | ⟨φ,h1,h2,_⟩
  ·cases hg
  ·exact hN φ h1 g (h2.trans hg)⟩) hl
end
def oA {fs fs':List Fact} (h:∀φ∈fs,φ∈fs'):∀a xs,eC fs a xs→eC fs' a xs:=fun a xs k=>k.mono h
end Go.Proofs.YtdbjakibneeeiaaGreatDoor.Sx
namespace Go.Proofs.YtdbjakibneeeiaaGreatDoor.Sx
open Go.RowKit Go.ChangeShapes Go.WideShapes
mutual
def FA:(s:Sh)→Den s→Prop
 | .int,x=>Fits x
 | .bool,_=>True
 | .str,x=>ByteArray.size x≤maxLen
 | .num _,_=>True
 | .flat l,x=>Jo l x
 | .row e,L=>List.length (α:=Den e) L≤maxLen∧∀x:Den e,List.Mem x L→FA e x
termination_by structural s=>s
def Jo:(l:List Sh)→af l→Prop
 | [],_=>True
 | s::l,x=>FA s x.1∧Jo l x.2
termination_by structural l=>l
end
abbrev OC (w:World):Option Addr→List Value→Prop:=Ar w fun _=>True
mutual
def sL {w:World}:∀{s:Sh} {vs:List Value} {d:D},lK w s vs d→∃x:Den s,aW (OC w) s x vs∧FA s x
 | _,_,_,.int (n:=n) h=>⟨n,rfl,h⟩
 | _,_,_,.bool (x:=x)=>⟨x,rfl,trivial⟩
 | _,_,_,.str (x:=x) h=>⟨x,rfl,h⟩
 | _,_,_,.flat h=>vr h
 | _,_,_,.row (e:=e) (a:=a) (n:=n) (c:=c) (xs:=xs) hs hn hl ha=>by
  obtain ⟨L,h1,h2,h3⟩:=vf hl
  refine ⟨L,⟨a,n,c,xs,rfl,hs,?_,h1,ha,fun _ _=>trivial⟩,?_,h3⟩
  ·rw [hn];exact h2.symm
  ·have:=hs.1;have:=hs.2.1
   show List.length (α:=Den e) L≤maxLen
   omega
def vr {w:World}:∀{l:List Sh} {vs:List Value} {ds:List D},jh w l vs ds→∃x:af l,dz (OC w) l x vs∧Jo l x
 | _,_,_,.nil=>⟨(),rfl,trivial⟩
 | _,_,_,.cons h hl=>by
  obtain ⟨x,h1,h2⟩:=sL h
  obtain ⟨y,h3,h4⟩:=vr hl
  exact ⟨(x,y),⟨_,_,rfl,h1,h3⟩,h2,h4⟩
def vf {w:World}:∀{e:Sh} {vs:List Value} {ds:List D},mW w e vs ds→∃L:List (Den e),bK (aW (OC w) e) L vs∧L.length=ds.length∧∀x,List.Mem x L→FA e x
 | _,_,_,.nil=>⟨[],rfl,rfl,fun x h=>by cases h⟩
 | _,_,_,.cons h hl=>by
  obtain ⟨x,h1,h2⟩:=sL h
  obtain ⟨L,h3,h4,h5⟩:=vf hl
  refine ⟨x::L,⟨_,_,rfl,h1,h3⟩,by simp [h4],fun y hy=>?_⟩
  cases hy with
  | head=>exact h2
  | tail _ hy=>exact h5 y hy
end
def wD (g:TypeId→Sh→Bool):List Field→Nat→List Sh→Bool
 | [],_,[]=>true
 | f::fs,o,s::l=>f.offset==o&&(g f.type s&&wD g fs (o+s.size) l)
 | _,_,_=>false
def iz (P:Program):Nat→TypeId→Sh→Bool
 | 0,_,_=>false
 | n+1,t,.int=>(match P.underlying t with | some (.int .i64)=>true | _=>false)&&P.cellsOf t==1
 | n+1,t,.bool=>(match P.underlying t with | some .bool=>true | _=>false)&&P.cellsOf t==1
 | n+1,t,.str=>(match P.underlying t with | some .string=>true | _=>false)&&P.cellsOf t==1
 | n+1,t,.row s=>(match P.underlying t with | some (.slice e)=>iz P n e s | _=>false)&&(P.cellsOf t==1&&Nat.blt 0 s.size)
 | n+1,t,.flat l=>match P.underlying t with
  | some (.struct fs)=>wD (iz P n) fs.toList 0 l&&P.cellsOf t==Sh.sizes l
  | some (.array k e)=>match l with
   | s::_=>Sh.J2 l (List.replicate k s)&&(iz P n e s&&P.cellsOf t==k*s.size)
   | []=>false
  | _=>false
 | _,_,_=>false
def wv {P:Program} {g:TypeId→Sh→Bool} (hg:∀t s,g t s=true→Typed P t s):∀{fs:List Field} {o:Nat} {l:List Sh},wD g fs o l=true→pW P fs o l
 | [],_,[],_=>.nil
 | f::fs,o,s::l,h=>by
  simp only [wD,Bool.and_eq_true,beq_iff_eq] at h
  exact .cons h.1 (hg _ _ h.2.1) (wv hg h.2.2)
 | [],_,_::_,h=>by cases h
 | _::_,_,[],h=>by cases h
def mG {P:Program}:∀(n:Nat) {t:TypeId} {s:Sh},iz P n t s=true→Typed P t s
 | 0,_,_,h=>by cases h
 | n+1,t,.int,h=>by
  simp only [iz,Bool.and_eq_true,beq_iff_eq] at h
  obtain ⟨h1,h2⟩:=h
  split at h1
  ·rename_i e;exact .int e h2
  ·cases h1
 | n+1,t,.bool,h=>by
  simp only [iz,Bool.and_eq_true,beq_iff_eq] at h
  obtain ⟨h1,h2⟩:=h
  split at h1
  ·rename_i e;exact .bool e h2
  ·cases h1
 | n+1,t,.str,h=>by
  simp only [iz,Bool.and_eq_true,beq_iff_eq] at h
  obtain ⟨h1,h2⟩:=h
  split at h1
  ·rename_i e;exact .str e h2
  ·cases h1
 | n+1,t,.num _,h=>by simp [iz] at h
 | n+1,t,.row s,h=>by
  simp only [iz,Bool.and_eq_true,beq_iff_eq] at h
  obtain ⟨h1,h2,h3⟩:=h
  split at h1
  ·rename_i e he;exact .row he h2 (mG n h1) (by have:=h3;simp [Nat.blt] at this;omega)
  ·cases h1
 | n+1,t,.flat l,h=>by
  unfold iz at h
  split at h
  ·rename_i fs e
   simp only [Bool.and_eq_true,beq_iff_eq] at h
   exact .struct e (wv (fun t s=>mG n) h.1) h.2
  ·rename_i k e he
   cases l with
   | nil=>cases h
   | cons s l=>
    simp only [Bool.and_eq_true,beq_iff_eq] at h
    obtain ⟨h1,h2,h3⟩:=h
    rw [Sh.AN h1]
    exact .array he (mG n h2) h3
  ·cases h
section
variable {H : Type} {enc : TypeId × Value → H} {P : Program} {W : World} {base : Nat} {spare : Nat → Bool} {held : Bool}
def Af {r:Reach} {n b0:Nat} {w:World} {t e:TypeId} {v:Value} (ht:P.underlying t=some (.array n e)) (h:Value.okWide P w r b0 t v):∃cs,v=.agg cs∧cs.size=P.cellsOf t:=by
 simp only [Value.okWide,ht] at h
 obtain ⟨cs,h1,h2,_⟩:=h
 exact ⟨cs,h1,h2⟩
def uD {t:TypeId} {s:Sh} {r:Reach} {b0:Nat} {v:Value} {d:DataW H} {p:List MemPlace} (n:Nat) (ht:iz P n t s=true) (hv:Value.okWide P W r b0 t v) (h:DataW.Trod enc P W base spare held t v d p):∃x:Den s,fY (OC W) s x v∧FA s x:=by
 have ht:=mG n ht
 obtain ⟨fuel,hf⟩:=h
 obtain ⟨d,hd⟩:=xp fuel ht hf
 obtain ⟨x,hx,ho⟩:=sL hd
 refine ⟨x,?_,ho⟩
 cases ht with
 | int hu _=>
  obtain ⟨k,rfl⟩:=okWide_int hu hv
  have hx : [Value.int .i64 k]=[.int .i64 x]:=hx
  show Value.int .i64 k=.int .i64 x
  simpa using hx
 | bool hu _=>
  obtain ⟨k,rfl⟩:=okWide_bool hu hv
  have hx : [Value.bool k]=[.bool x]:=hx
  show Value.bool k=.bool x
  simpa using hx
 | str hu _=>
  obtain ⟨k,rfl⟩:=okWide_string hu hv
  have hx : [Value.string k]=[.string x]:=hx
  show Value.string k=.string x
  simpa using hx
 | row hu _ _ _=>
  obtain ⟨a,len,cap,rfl⟩:=okWide_slice hu hv
  exact hx
 | struct hu _ _=>
  obtain ⟨cs,rfl,_⟩:=okWide_struct hu hv
  exact ⟨cs.toList,by simp,hx⟩
 | array hu _ _=>
  obtain ⟨cs,rfl,_⟩:=Af hu hv
  exact ⟨cs.toList,by simp,hx⟩
end
def B4.Ja {P:Program} {B:World→Prop} {f:FuncId} {ps:List Sh} {F:af ps→Option (af [.bool])} (h:(bI.fG ⟨ps,[.bool],F⟩).Ok P B f) {w:World} {x:af ps} {vs:List Value} (hB:B w) (hF:F x=some (true,())) (hl:cn (OC w) ps x vs) :
  Calls P f (List.toArray vs) w fun e w'=>e=.returned (.bool true)∧Below w.heap.size w w':=by
 refine (h _ w x vs hB (show (F x).isSome=true by rw [hF];rfl) hl).mono ?_
 rintro e w' ⟨us,rfl,hb,hu⟩
 have hu:cn (Ar w' fun g=>w.heap.size≤g∨True) [.bool] ((F x).getD (Sh.zL [.bool])) us:=hu
 rw [hF] at hu
 obtain ⟨y,us2,rfl,h1,h2⟩:=hu
 have h1:y=.bool true:=h1
 have h2:us2=[]:=h2
 subst h1 h2
 exact ⟨rfl,hb⟩
end Go.Proofs.YtdbjakibneeeiaaGreatDoor.Sx
