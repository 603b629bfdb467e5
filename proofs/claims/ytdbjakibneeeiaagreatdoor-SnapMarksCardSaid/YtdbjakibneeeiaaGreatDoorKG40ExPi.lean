/- Readable forms of functions that are reckoned. -/
import Derived.Test.YtdbjakibneeeiaaGreatDoorKG39ExTB
set_option linter.all false
set_option maxHeartbeats 4000000
set_option maxRecDepth 100000
namespace Go.Proofs.YtdbjakibneeeiaaGreatDoor.Ex
open Go.RowKit Sx
theorem R_R (x:(Y7×(Int×(Y5×(Int×Unit))))):F_0 x =
 xb (F_D (x.1,())) (fun (y0:(Y7×Unit))=>xb (F_E (x.2.2.1,())) (fun (y1:(Y5×Unit))=>xb (xloop (S:=(Y14×Tm)) (R:=((Unit×Tm) ⊕ Empty)) (fun (s2:(Y14×Tm))=>xbr (decide (s2.1.2.2.1<s2.1.2.1)) (xb (F_9 (s2.2.1.1.1,(s2.1.1,s2.2.1.2.1))) (fun (y3:(Bool×Unit))=>xbr (!y3.1) (some (.inr (.inl ((),s2.2)))) (xb (F_2 (s2.2.1.1.1,(s2.1.1,s2.2.1.2.1))) (fun (y4:T8)=>gd (inI (s2.1.2.2.1+(1:Int))) (some (.inl ((s2.1.1,(s2.1.2.1,((s2.1.2.2.1+(1:Int)),()))),(((y4.1,()),((y4.2.1,()),s2.2.1.2.2)),())))))))) (some (.inr (.inl ((),s2.2))))) xmany ((x.2.1,((if (10000:Int)<x.2.2.2.1 then (10000:Int) else x.2.2.2.1),((0:Int),()))),((y0,(y1,((((0:Int),((0:Int),((0:Int),((0:Int),([],([],(((0:Int),(((0:Int),((0:Int),((0:Int),((0:Int),((0:Int),(ByteArray.empty,())))))),([],((0:Int),())))),()))))))),()),(((((0:Int),((0:Int),((0:Int),((0:Int),((0:Int),((0:Int),((0:Int),((0:Int),())))))))),([],(((0:Int),((0:Int),())),([],())))),()),())))),()))) (fun (y5:((Unit×Tm) ⊕ Empty))=>xs y5 (fun (y6:(Unit×Tm))=>some (y6.2.1.1.1,y6.2.1.2.1)) (fun (y7:Empty)=>xe y7)))):=by kernel_rfl
theorem R_S (x:(Y0×Unit)):F_x x =
 xbr ((decide (x.1.1<(0:Int)))==false) (xbr ((decide (x.1.1>(255:Int)))==false) (xbr ((decide (x.1.2.1<(0:Int)))==false) (xbr ((decide (x.1.2.1≥(4294967296:Int)))==false) (xbr ((decide (x.1.2.2.1<(0:Int)))==false) (xbr ((decide (x.1.2.2.1>x.1.2.2.2.1))==false) (xbr (decide (x.1.2.2.2.1>(1099511627776:Int))) (some (false,())) (xbr ((decide (x.1.2.2.2.2.1≥(1:Int)))==true) (xbr ((decide (x.1.2.2.2.2.1≤(1073741824:Int)))==true) (some ((decide ((((ByteArray.size x.1.2.2.2.2.2.1):Nat):Int)≤(256:Int))),())) (some (false,()))) (some (false,())))) (some (false,()))) (some (false,()))) (some (false,()))) (some (false,()))) (some (false,()))) (some (false,())):=by kernel_rfl
theorem R_T (x:(Y1×(Int×Unit))):F_K x =
 xbr ((decide (x.1.1<(0:Int)))==false) (xbr ((decide (x.1.1>(255:Int)))==false) (xbr ((decide (x.1.2.1<(0:Int)))==false) (xbr ((decide (x.1.2.1≥(4294967296:Int)))==false) (xbr ((decide (x.2.1<(1:Int)))==false) (xbr ((decide (x.2.1>(16:Int)))==false) (xbr (decide ((((List.length x.1.2.2.1):Nat):Int)>x.2.1)) (some (false,())) (xb (xloop (S:=((Int×Unit)×Ts)) (R:=(T0 ⊕ T2)) (fun (s0:((Int×Unit)×Ts))=>xbr (decide (s0.1.1<(((List.length s0.2.1.1.1.2.2.1):Nat):Int))) (gd (inR s0.1.1 (List.length s0.2.1.1.1.2.2.1)) (gd (decide ((Int.toNat s0.1.1)<(List.length s0.2.1.1.1.2.2.1))) (xb (F_x ((List.getD s0.2.1.1.1.2.2.1 (Int.toNat s0.1.1) ((0:Int),((0:Int),((0:Int),((0:Int),((0:Int),(ByteArray.empty,()))))))),())) (fun (y1:(Bool×Unit))=>xbr ((!y1.1)==false) (xbr (((List.getD s0.2.1.1.1.2.2.1 (Int.toNat s0.1.1) ((0:Int),((0:Int),((0:Int),((0:Int),((0:Int),(ByteArray.empty,()))))))).1 != s0.2.1.1.1.1)==false) (xbr ((decide ((List.getD s0.2.1.1.1.2.2.1 (Int.toNat s0.1.1) ((0:Int),((0:Int),((0:Int),((0:Int),((0:Int),(ByteArray.empty,()))))))).2.1<s0.2.1.1.1.2.1))==false) (xbr ((decide (s0.1.1>(0:Int)))==true) (gd (inI (s0.1.1 - (1:Int))) (gd (inR (s0.1.1 - (1:Int)) (List.length s0.2.1.1.1.2.2.1)) (gd (decide ((Int.toNat (s0.1.1 - (1:Int)))<(List.length s0.2.1.1.1.2.2.1))) (xbr (decide ((List.getD s0.2.1.1.1.2.2.1 (Int.toNat (s0.1.1 - (1:Int))) ((0:Int),((0:Int),((0:Int),((0:Int),((0:Int),(ByteArray.empty,()))))))).2.1≥(List.getD s0.2.1.1.1.2.2.1 (Int.toNat s0.1.1) ((0:Int),((0:Int),((0:Int),((0:Int),((0:Int),(ByteArray.empty,()))))))).2.1)) (some (.inr (.inl ((false,()),((),()))))) (gd (inI (s0.1.1+(1:Int))) (some (.inl (((s0.1.1+(1:Int)),()),s0.2)))))))) (gd (inI (s0.1.1+(1:Int))) (some (.inl (((s0.1.1+(1:Int)),()),s0.2))))) (some (.inr (.inl ((false,()),((),())))))) (some (.inr (.inl ((false,()),((),())))))) (some (.inr (.inl ((false,()),((),()))))))))) (some (.inr (.inr (.inl ((),((),()))))))) xmany (((0:Int),()),(((x.1,()),()),()))) (fun (y2:(T0 ⊕ T2))=>xs y2 (fun (y3:T0)=>some y3.1) (fun (y4:T2)=>xs y4 (fun (y5:Tc)=>some (true,())) (fun (y6:Empty)=>xe y6))))) (some (false,()))) (some (false,()))) (some (false,()))) (some (false,()))) (some (false,()))) (some (false,())):=by kernel_rfl
theorem R_U (x:(Y1×Unit)):F_J x =
 xbr ((x.1.2.1==(0:Int))==true) (some (((((List.length x.1.2.2.1):Nat):Int)==(0:Int)),())) (some (false,())):=by kernel_rfl
theorem R_V (x:(Y4×(Int×(Y2×Unit)))):F_L x =
 xbr ((decide (x.1.2.1<(0:Int)))==false) (xbr (decide (x.1.2.1>(1099511627776:Int))) (some (false,())) (xb (xloop (S:=(Y3×Th)) (R:=(T0 ⊕ T2)) (fun (s0:(Y3×Th))=>xbr (decide (s0.1.2.1<(((List.length s0.2.1.1.1.1):Nat):Int))) (gd (inR s0.1.2.1 (List.length s0.2.1.1.1.1)) (gd (decide ((Int.toNat s0.1.2.1)<(List.length s0.2.1.1.1.1))) (xb (F_K ((List.getD s0.2.1.1.1.1 (Int.toNat s0.1.2.1) ((0:Int),((0:Int),([],())))),(s0.2.1.2.1.1.2.2.2.1,()))) (fun (y1:(Bool×Unit))=>xbr ((!y1.1)==false) (xb (F_J ((List.getD s0.2.1.1.1.1 (Int.toNat s0.1.2.1) ((0:Int),((0:Int),([],())))),())) (fun (y2:(Bool×Unit))=>xbr (y2.1==false) (xb (F_r ((List.getD s0.2.1.1.1.1 (Int.toNat s0.1.2.1) ((0:Int),((0:Int),([],())))).1,(s0.2.1.2.1.1.1,()))) (fun (y3:(Int×Unit))=>xbr ((y3.1 != s0.1.1)==false) (xbr ((decide (s0.1.2.1>(0:Int)))==true) (gd (inI (s0.1.2.1 - (1:Int))) (gd (inR (s0.1.2.1 - (1:Int)) (List.length s0.2.1.1.1.1)) (gd (decide ((Int.toNat (s0.1.2.1 - (1:Int)))<(List.length s0.2.1.1.1.1))) (xbr (decide ((List.getD s0.2.1.1.1.1 (Int.toNat (s0.1.2.1 - (1:Int))) ((0:Int),((0:Int),([],())))).1≥(List.getD s0.2.1.1.1.1 (Int.toNat s0.1.2.1) ((0:Int),((0:Int),([],())))).1)) (some (.inr (.inl ((false,()),((),()))))) (gd (inI (s0.1.2.1+(1:Int))) (some (.inl ((s0.1.1,((s0.1.2.1+(1:Int)),())),s0.2)))))))) (gd (inI (s0.1.2.1+(1:Int))) (some (.inl ((s0.1.1,((s0.1.2.1+(1:Int)),())),s0.2))))) (some (.inr (.inl ((false,()),((),()))))))) (some (.inr (.inl ((false,()),((),()))))))) (some (.inr (.inl ((false,()),((),()))))))))) (some (.inr (.inr (.inl ((),((),()))))))) xmany ((x.2.1,((0:Int),())),(((x.1,()),(x.2.2,())),()))) (fun (y4:(T0 ⊕ T2))=>xs y4 (fun (y5:T0)=>some y5.1) (fun (y6:T2)=>xs y6 (fun (y7:Tc)=>some (true,())) (fun (y8:Empty)=>xe y8))))) (some (false,())):=by kernel_rfl
theorem R_W (x:(Y2×Unit)):F_07 x =
 xbr ((decide (x.1.1<(1:Int)))==false) (xbr ((decide (x.1.1>(8:Int)))==false) (xbr ((decide (x.1.2.1<(0:Int)))==false) (xbr ((decide (x.1.2.1>x.1.2.2.1))==false) (xbr ((decide (x.1.2.2.1<(1:Int)))==false) (xbr ((decide (x.1.2.2.1>(1000:Int)))==false) (xbr ((decide (x.1.2.2.2.1<(1:Int)))==false) (xbr (decide (x.1.2.2.2.1>(16:Int))) (some (false,())) (xbr ((decide (x.1.2.2.2.2.1≥(0:Int)))==true) (xbr ((decide (x.1.2.2.2.2.1≤(100:Int)))==true) (xbr ((decide (x.1.2.2.2.2.2.1≥(1:Int)))==true) (xbr ((decide (x.1.2.2.2.2.2.1≤(16:Int)))==true) (xbr ((decide (x.1.2.2.2.2.2.2.1≥(1:Int)))==true) (xbr ((decide (x.1.2.2.2.2.2.2.1≤(4:Int)))==true) (xbr ((decide (x.1.2.2.2.2.2.2.2.1≥(1:Int)))==true) (some ((decide (x.1.2.2.2.2.2.2.2.1≤(8:Int))),())) (some (false,()))) (some (false,()))) (some (false,()))) (some (false,()))) (some (false,()))) (some (false,()))) (some (false,())))) (some (false,()))) (some (false,()))) (some (false,()))) (some (false,()))) (some (false,()))) (some (false,()))) (some (false,())):=by kernel_rfl
theorem R_X (x:(Y5×Unit)):F_M x =
 xb (F_07 (x.1.1,())) (fun (y0:(Bool×Unit))=>xbr ((!y0.1)==false) (xbr (((((List.length x.1.2.1):Nat):Int) != x.1.1.1)==false) (xbr (((((List.length x.1.2.2.2.1):Nat):Int) != x.1.1.1)==false) (xbr ((x.1.2.2.1.2.1 != x.1.1.2.2.1)==false) (xbr ((decide (x.1.2.2.1.1<(0:Int)))==false) (xbr (decide (x.1.2.2.1.1>x.1.1.2.2.1)) (some (false,())) (xb (xloop (S:=((Int×Unit)×(((Y5×Unit)×((Y2×Unit)×Unit))×Unit))) (R:=(T0 ⊕ T2)) (fun (s1:((Int×Unit)×(((Y5×Unit)×((Y2×Unit)×Unit))×Unit)))=>xbr (decide (s1.1.1<s1.2.1.2.1.1.1)) (gd (inR s1.1.1 (List.length s1.2.1.1.1.2.1)) (gd (decide ((Int.toNat s1.1.1)<(List.length s1.2.1.1.1.2.1))) (xbr ((decide ((List.getD s1.2.1.1.1.2.1 (Int.toNat s1.1.1) (0:Int))<(0:Int)))==false) (gd (inR s1.1.1 (List.length s1.2.1.1.1.2.2.2.1)) (gd (decide ((Int.toNat s1.1.1)<(List.length s1.2.1.1.1.2.2.2.1))) (xb (F_L ((List.getD s1.2.1.1.1.2.2.2.1 (Int.toNat s1.1.1) ([],((0:Int),()))),(s1.1.1,s1.2.1.2.1))) (fun (y2:(Bool×Unit))=>xbr (!y2.1) (some (.inr (.inl ((false,()),((),()))))) (gd (inI (s1.1.1+(1:Int))) (some (.inl (((s1.1.1+(1:Int)),()),s1.2)))))))) (some (.inr (.inl ((false,()),((),())))))))) (some (.inr (.inr (.inl ((),((),()))))))) xmany (((0:Int),()),((x,((x.1.1,()),())),()))) (fun (y3:(T0 ⊕ T2))=>xs y3 (fun (y4:T0)=>some y4.1) (fun (y5:T2)=>xs y5 (fun (y6:Tc)=>some (true,())) (fun (y7:Empty)=>xe y7))))) (some (false,()))) (some (false,()))) (some (false,()))) (some (false,()))) (some (false,()))):=by kernel_rfl
def bodyAt:Code→Option Code
 | .loop b=>some b
 | .seq a b=>match bodyAt a with
  | some c=>some c
  | none=>bodyAt b
 | .block _ b=>bodyAt b
 | .cond _ x y=>match bodyAt x with
  | some c=>some c
  | none=>bodyAt y
 | _=>none
def srH:LH:=⟨[],0,⟨[.d (.row .int),.any,.d .int,.d (.num 7)]++an 5 ([.d .int]++an 15 []),[],[]⟩,[(.ret,⟨an 8 ([.d .int]++an 16 []),[],[]⟩),(.exit 0,⟨[.d (.row .int)]++an 24 [],[],[]⟩)]⟩
noncomputable def srB:Code:=match Tryz.prog.funcs[92]? with
 | none=>.skip
 | some fn=>match fn.body with
  | none=>.skip
  | some c=>(bodyAt c).getD .skip
noncomputable def srS (x:Tj×(Unit×Unit)):Option ((Tj×(Unit×Unit)) ⊕ T9):=
 xexecG Tryz.prog { EN with pre:=h_0.pre } t_4 h_0 (xexecG Tryz.prog { EN with pre:=h_0.pre } t_4 h_0 fun _ _ _ _ _ _=>none) srB (srH.head.T ⊕ ExT srH.exits) (@sameS _ _ inferInstance (exS srH.exits)) (lay srH.head x).1 (lay srH.head x).2 (xend srH)
theorem R_Y (L:List Int) (i w:Int):F_d (L,i,w,(Value.func (.func 95) #[] #[]),()) =
 xb (xloop (S:=(Tj×(Unit×Unit))) (R:=T9) srS xmany ((L,(w,((Value.func (.func 95) #[] #[]),(i,())))),((),()))) (fun (y1:T9)=>xs y1 (fun (y2:Tp)=>some y2.1) (fun (y3:((Tb×(Unit×Unit)) ⊕ Empty))=>xs y3 (fun (y4:(Tb×(Unit×Unit)))=>some ((((List.length y4.1.1):Nat):Int),())) (fun (y5:Empty)=>xe y5))):=by kernel_rfl
theorem R_Z (L:List Int) (i w:Int):F_d (L,i,w,(Value.func (.func 93) #[] #[]),()) =
 xb (xloop (S:=(Tj×(Unit×Unit))) (R:=T9) srS xmany ((L,(w,((Value.func (.func 93) #[] #[]),(i,())))),((),()))) (fun (y1:T9)=>xs y1 (fun (y2:Tp)=>some y2.1) (fun (y3:((Tb×(Unit×Unit)) ⊕ Empty))=>xs y3 (fun (y4:(Tb×(Unit×Unit)))=>some ((((List.length y4.1.1):Nat):Int),())) (fun (y5:Empty)=>xe y5))):=by kernel_rfl
theorem srS_holds (L:List Int) (w k:Int):srS ((L,(w,(Value.func (.func 95) #[] #[],(k,())))),((),())) =
 xbr (decide (k<((List.length L:Nat):Int))) (xb (F_o (L,(k,(w,())))) (fun (y:Bool×Unit)=>xbr y.1 (some (.inr (.inl ((k,()),((),()))))) (gd (inI (k+(1:Int))) (some (.inl ((L,(w,(Value.func (.func 95) #[] #[],(k+(1:Int),())))),((),()))))))) (some (.inr (.inr (.inl ((L,()),((),()))))))
 :=by kernel_rfl
theorem srS_lacks (L:List Int) (w k:Int):srS ((L,(w,(Value.func (.func 93) #[] #[],(k,())))),((),())) =
 xbr (decide (k<((List.length L:Nat):Int))) (xb (F_01 (L,(k,(w,())))) (fun (y:Bool×Unit)=>xbr y.1 (some (.inr (.inl ((k,()),((),()))))) (gd (inI (k+(1:Int))) (some (.inl ((L,(w,(Value.func (.func 93) #[] #[],(k+(1:Int),())))),((),()))))))) (some (.inr (.inr (.inl ((L,()),((),()))))))
 :=by kernel_rfl
end Go.Proofs.YtdbjakibneeeiaaGreatDoor.Ex
namespace Go.Proofs.YtdbjakibneeeiaaGreatDoor.Ex
open Go.RowKit Sx
theorem xb_e {α R:Type} {o:Option α} {v:α} {k:α→Option R} (h:o=some v):xb o k=k v:=by rw [h];rfl
theorem gd_e {R:Type} {c:Bool} {o:Option R} (h:c=true):gd c o=o:=by rw [h];rfl
theorem xbr_t {R:Type} {c:Bool} {a b:Option R} (h:c=true):xbr c a b=a:=by rw [h];rfl
theorem xbr_f {R:Type} {c:Bool} {a b:Option R} (h:c=false):xbr c a b=b:=by rw [h];rfl
theorem both_e {R:Type} [Same R] {x y:Option R} {a:R} (h:x=some a) (h2:y=some a) (h3:Same.eq a a=true):both x y=some a:=by
 rw [h,h2]
 show gd (Same.eq a a) (some a)=some a
 rw [h3];rfl
theorem Tells.cnt {S R:Type} {Q:R→Prop} {step:S→Option (S ⊕ R)} (I:Nat→S→Prop) (n:Nat) (hn:n≤9223372036854775807) (h:∀k s,k<n→I k s→Tells (step s) fun x=>match x with | .inl s=>I (k+1) s | .inr r=>Q r) (he:∀s,I n s→Tells (step s) fun x=>match x with | .inl _=>False | .inr r=>Q r) {s:S} (hs:I 0 s) :
  Tells (xloop step xmany s) Q:=by
 have key:∀j k s,k+j=n→I k s→∀m,j<m→Tells (xloop step m s) Q:=by
  intro j
  induction j with
  | zero=>
   intro k s hk hI m hm
   obtain rfl:k=n:=by omega
   obtain ⟨x,e,hx⟩:=he s hI
   obtain ⟨m,rfl⟩:∃m',m=m'+1:=⟨m - 1,by omega⟩
   cases x with
   | inl s=>exact hx.elim
   | inr r=>exact ⟨r,by rw [xloop_step,e],hx⟩
  | succ j ih=>
   intro k s hk hI m hm
   obtain ⟨x,e,hx⟩:=h k s (by omega) hI
   obtain ⟨m,rfl⟩:∃m',m=m'+1:=⟨m - 1,by omega⟩
   cases x with
   | inl s'=>
    obtain ⟨r,e2,hr⟩:=ih (k+1) s' (by omega) hx m (by omega)
    exact ⟨r,by rw [xloop_step,e];exact e2,hr⟩
   | inr r=>exact ⟨r,by rw [xloop_step,e],hx⟩
 exact key n 0 s (by omega) hs xmany (xmany_gt hn)
mutual
def plainS:Sh→Bool
 | .num _=>false
 | .flat l=>plainL l
 | .row e=>plainS e
 | .int=>true
 | .bool=>true
 | .str=>true
termination_by structural s=>s
def plainL:List Sh→Bool
 | []=>true
 | s::l=>plainS s&&plainL l
termination_by structural l=>l
end
theorem eqN_refl {α:Type} {f:α→α→Bool} (hf:∀x,f x x=true):∀l:List α,eqN f l l=true
 | []=>rfl
 | x::l=>by
  show (f x x&&eqN f l l)=true
  rw [hf,eqN_refl hf l];rfl
theorem eqS_refl (x:ByteArray):eqS x x=true:=decide_eq_true rfl
mutual
theorem Den.eqB_refl:∀{s:Sh} (h:plainS s=true) (x:Den s),Den.eqB s x x=true
 | .int,_,x=>beq_self_eq_true (α:=Int) x
 | .bool,_,x=>beq_self_eq_true (α:=Bool) x
 | .str,_,x=>eqS_refl x
 | .num _,h,_=>by cases h
 | .flat l,h,x=>DenL.eqB_refl (l:=l) h x
 | .row e,h,x=>eqN_refl (f:=Den.eqB e) (fun y=>Den.eqB_refl (s:=e) h y) x
theorem DenL.eqB_refl:∀{l:List Sh} (h:plainL l=true) (x:DenL l),DenL.eqB l x x=true
 | [],_,_=>rfl
 | s::l,h,(a,x)=>by
  have h:(plainS s&&plainL l)=true:=h
  rw [Bool.and_eq_true] at h
  show (Den.eqB s a a&&DenL.eqB l x x)=true
  rw [Den.eqB_refl h.1,DenL.eqB_refl h.2];rfl
end
theorem DenLL.eqB_refl:∀{l:List (List Sh)} (h:l.all plainL=true) (x:DenLL l),DenLL.eqB l x x=true
 | [],_,_=>rfl
 | s::l,h,(a,x)=>by
  rw [List.all_cons,Bool.and_eq_true] at h
  show (DenL.eqB s a a&&DenLL.eqB l x x)=true
  rw [DenL.eqB_refl h.1,DenLL.eqB_refl h.2];rfl
theorem same_t {a:List Sh} {b:List (List Sh)} {c:List Sh} (ha:plainL a=true) (hb:b.all plainL=true) (hc:plainL c=true) (x:DenL a×(DenLL b×DenL c)):@Same.eq (DenL a×(DenLL b×DenL c)) inferInstance x x=true:=by
 show (DenL.eqB a x.1 x.1&&(DenLL.eqB b x.2.1 x.2.1&&DenL.eqB c x.2.2 x.2.2))=true
 rw [DenL.eqB_refl ha,DenLL.eqB_refl hb,DenL.eqB_refl hc];rfl
def lkHas (L:List Int) (i:Int):Bool:=decide (0≤i)&&decide (i<(L.length:Int))
theorem lkHas_iff {L:List Int} {i:Int}:lkHas L i=true↔0≤i∧i<(L.length:Int):=by
 unfold lkHas;rw [Bool.and_eq_true,decide_eq_true_iff,decide_eq_true_iff]
theorem lk_has (L:List Int) (i:Int):F_m (L,i,())=some (lkHas L i,()):=by
 refine (R_b (L,i,())).trans ?_
 show xbr (decide ((0:Int)≤i)==true) (some (decide (i<(L.length:Int)),())) (some (false,()))=_
 unfold lkHas
 cases decide ((0:Int)≤i) <;> rfl
def lkFree (L:List Int) (i:Int):Bool:=lkHas L i&&(L.getD i.toNat 0==0)
theorem lk_Free (L:List Int) (i:Int):F_f (L,i,())=some (lkFree L i,()):=by
 refine (R_c (L,i,())).trans ?_
 refine (xb_e (lk_has L i)).trans ?_
 cases h:lkHas L i with
 | false=>unfold lkFree;rw [h];rfl
 | true=>
  obtain ⟨h1,h2⟩:=lkHas_iff.1 h
  unfold lkFree;rw [h]
  exact (gd_e (inR_iff.2 ⟨h1,h2⟩)).trans (gd_e (decide_eq_true (by show i.toNat<L.length;omega)))
theorem lk_somebody (w:Int):F_n (w,())=some (decide (w≥1),()):=R_d (w,())
def lkHolds (L:List Int) (i w:Int):Bool:=decide (w≥1)&&(L.getD i.toNat 0==w)
theorem lk_holds (L:List Int) (i w:Int) (h:0≤i) (h2:i<(L.length:Int)):F_o (L,i,w,())=some (lkHolds L i w,()):=by
 refine (R_e (L,i,w,())).trans ?_
 refine (xb_e (lk_somebody w)).trans ?_
 unfold lkHolds
 cases h3:decide (w≥1) with
 | false=>rfl
 | true=>exact (gd_e (inR_iff.2 ⟨h,h2⟩)).trans (gd_e (decide_eq_true (by show i.toNat<L.length;omega)))
theorem lk_lacks (L:List Int) (i w:Int) (h:0≤i) (h2:i<(L.length:Int)):F_01 (L,i,w,())=some (!lkHolds L i w,()):=
 (R_f (L,i,w,())).trans (xb_e (lk_holds L i w h h2))
theorem lk_with (L:List Int) (i w:Int) (h:0≤i) (h2:i<(L.length:Int)) (hL:L.length≤1000000):F_B (L,i,w,())=some (L.set i.toNat w,()):=by
 refine (R_g (L,i,w,())).trans ?_
 refine (xb_e (clF_eq hL)).trans ?_
 exact (gd_e (inR_iff.2 ⟨h,h2⟩)).trans (gd_e (decide_eq_true (by show i.toNat<L.length;omega)))
theorem lk_Take (L:List Int) (i w:Int) (h:lkFree L i=true) (hw:1≤w) (hL:L.length≤1000000):F_03 (L,i,w,())=some (L.set i.toNat w,(0:Int),()):=by
 have hh:=(Bool.and_eq_true_iff.1 h).1
 obtain ⟨h1,h2⟩:=lkHas_iff.1 hh
 refine (R_h (L,i,w,())).trans ?_
 refine (xb_e (lk_has L i)).trans ?_
 refine (xbr_t (by show ((!lkHas L i)==false)=true;rw [hh];rfl)).trans ?_
 refine (xb_e (lk_somebody w)).trans ?_
 refine (xbr_f (by show (!decide (w≥1))=false;rw [decide_eq_true (by omega)];rfl)).trans ?_
 refine (xb_e (lk_Free L i)).trans ?_
 refine (xbr_f (by show (!lkFree L i)=false;rw [h];rfl)).trans ?_
 exact xb_e (lk_with L i w h1 h2 hL)
theorem lk_Give (L:List Int) (i w:Int) (h1:0≤i) (h2:i<(L.length:Int)) (h:lkHolds L i w=true) (hL:L.length≤1000000):F_04 (L,i,w,())=some (L.set i.toNat 0,(0:Int),()):=by
 have hw:decide (w≥1)=true:=(Bool.and_eq_true_iff.1 h).1
 refine (R_i (L,i,w,())).trans ?_
 refine (xb_e (lk_has L i)).trans ?_
 refine (xbr_t (by show ((!lkHas L i)==false)=true;rw [lkHas_iff.2 ⟨h1,h2⟩];rfl)).trans ?_
 refine (xb_e (lk_somebody w)).trans ?_
 refine (xbr_f (by show (!decide (w≥1))=false;rw [hw];rfl)).trans ?_
 refine (xb_e (lk_holds L i w h1 h2)).trans ?_
 refine (xbr_f (by show (!lkHolds L i w)=false;rw [h];rfl)).trans ?_
 exact xb_e (lk_with L i 0 h1 h2 hL)
def IsNext (p:Nat→Bool) (n i j:Nat):Prop:=i≤j∧j≤n∧(j<n→p j=true)∧∀k,i≤k→k<j→p k=false
theorem Tells.idxF {S R:Type} {Q:R→Prop} {step:S→Option (S ⊕ R)} (mk:Nat→S) (I:Nat→Prop) (i n:Nat) (hi:i≤n) (hn:n≤9223372036854775807) (h0:I i) (h:∀k,i≤k→k<n→I k→Tells (step (mk k)) fun x=>match x with | .inl s=>s=mk (k+1)∧I (k+1) | .inr r=>Q r) (he:I n→Tells (step (mk n)) fun x=>match x with | .inl _=>False | .inr r=>Q r) {s:S} (hs:s=mk i) :
  Tells (xloop step xmany s) Q:=by
 refine Tells.cnt (fun k s=>s=mk (i+k)∧I (i+k)) (n - i) (by omega) (fun k s hk hI=>?_) (fun s hI=>?_) ⟨hs,h0⟩
 ·obtain ⟨rfl,hI⟩:=hI
  refine (h (i+k) (by omega) (by omega) hI).mono fun x hx=>?_
  cases x with
  | inl s=>exact hx
  | inr r=>exact hx
 ·obtain ⟨rfl,hI⟩:=hI
  have e:i+(n - i)=n:=by omega
  rw [e] at hI ⊢
  exact he hI
theorem lk_searchH (L:List Int) (i:Nat) (w:Int) (hi:i≤L.length) (hL:L.length≤1000000):Tells (F_d (L,(i:Int),w,Value.func (.func 95) #[] #[],())) fun r=>∃j:Nat,r.1=(j:Int)∧IsNext (fun k=>lkHolds L (k:Int) w) L.length i j:=by
 refine Tells.of (R_Y L (i:Int) w) ?_
 refine Tells.xb (Tells.idxF (Q:=fun r=>match r with | .inl y=>∃j:Nat,y.1.1=(j:Int)∧IsNext (fun k=>lkHolds L (k:Int) w) L.length i j | .inr (.inl y)=>y.1.1=L∧IsNext (fun k=>lkHolds L (k:Int) w) L.length i L.length | .inr (.inr y)=>False) (fun k=>((L,w,(Value.func (.func 95) #[] #[]),(k:Int),()),(),())) (fun j=>∀k,i≤k→k<j→lkHolds L (k:Int) w=false) i L.length hi (by omega) (fun k h1 h2=>by omega) (fun k h1 hk hI=>?_) (fun hI=>?_) rfl) (fun y hy=>?_)
 ·refine Tells.of (srS_holds L w (k:Int)) ?_
  refine Tells.br (fun _=>?_) (fun h=>absurd (ltN_of hk) (by rw [h];simp))
  refine Tells.xbe (lk_holds L (k:Int) w (by omega) (by omega)) ?_
  refine Tells.br (fun h=>⟨_,rfl,k,rfl,h1,by omega,fun _=>h,hI⟩) (fun h=>?_)
  refine Tells.gd (inI_nat hk (by omega)) ⟨_,rfl,rfl,fun m h2 h3=>?_⟩
  by_cases e:m=k
  ·subst e;exact h
  ·exact hI m h2 (by omega)
 ·refine Tells.of (srS_holds L w (L.length:Int)) ?_
  refine Tells.br (fun h=>absurd ltN_no (by rw [h];simp)) (fun _=>⟨_,rfl,rfl,hi,Nat.le_refl _,fun h=>absurd h (Nat.lt_irrefl _),hI⟩)
 ·match y,hy with
  | .inl y,hy=>exact ⟨_,rfl,hy⟩
  | .inr (.inl y),⟨e,hy⟩=>exact ⟨_,rfl,L.length,by show ((List.length y.1.1:Nat):Int)=_;rw [e],hy⟩
theorem lk_searchL (L:List Int) (i:Nat) (w:Int) (hi:i≤L.length) (hL:L.length≤1000000):Tells (F_d (L,(i:Int),w,Value.func (.func 93) #[] #[],())) fun r=>∃j:Nat,r.1=(j:Int)∧IsNext (fun k=>!lkHolds L (k:Int) w) L.length i j:=by
 refine Tells.of (R_Z L (i:Int) w) ?_
 refine Tells.xb (Tells.idxF (Q:=fun r=>match r with | .inl y=>∃j:Nat,y.1.1=(j:Int)∧IsNext (fun k=>!lkHolds L (k:Int) w) L.length i j | .inr (.inl y)=>y.1.1=L∧IsNext (fun k=>!lkHolds L (k:Int) w) L.length i L.length | .inr (.inr y)=>False) (fun k=>((L,w,(Value.func (.func 93) #[] #[]),(k:Int),()),(),())) (fun j=>∀k,i≤k→k<j→(!lkHolds L (k:Int) w)=false) i L.length hi (by omega) (fun k h1 h2=>by omega) (fun k h1 hk hI=>?_) (fun hI=>?_) rfl) (fun y hy=>?_)
 ·refine Tells.of (srS_lacks L w (k:Int)) ?_
  refine Tells.br (fun _=>?_) (fun h=>absurd (ltN_of hk) (by rw [h];simp))
  refine Tells.xbe (lk_lacks L (k:Int) w (by omega) (by omega)) ?_
  refine Tells.br (fun h=>⟨_,rfl,k,rfl,h1,by omega,fun _=>h,hI⟩) (fun h=>?_)
  refine Tells.gd (inI_nat hk (by omega)) ⟨_,rfl,rfl,fun m h2 h3=>?_⟩
  by_cases e:m=k
  ·subst e;exact h
  ·exact hI m h2 (by omega)
 ·refine Tells.of (srS_lacks L w (L.length:Int)) ?_
  refine Tells.br (fun h=>absurd ltN_no (by rw [h];simp)) (fun _=>⟨_,rfl,rfl,hi,Nat.le_refl _,fun h=>absurd h (Nat.lt_irrefl _),hI⟩)
 ·match y,hy with
  | .inl y,hy=>exact ⟨_,rfl,hy⟩
  | .inr (.inl y),⟨e,hy⟩=>exact ⟨_,rfl,L.length,by show ((List.length y.1.1:Nat):Int)=_;rw [e],hy⟩
theorem lk_First (L:List Int) (w:Int) (hL:L.length≤1000000):Tells (F_05 (L,w,())) fun r=>∃j:Nat,r.1=(j:Int)∧IsNext (fun k=>!lkHolds L (k:Int) w) L.length 0 j:=by
 refine Tells.of (R_u (L,w,())) ?_
 exact Tells.xb (lk_searchL L 0 w (Nat.zero_le _) hL) fun y hy=>⟨_,rfl,hy⟩
theorem lk_Held (L:List Int) (w:Int) (hL:L.length≤1000000):Tells (F_02 (L,w,())) fun r:List Int×Unit=>List.length r.1≤L.length∧∀x:Int,x∈r.1↔∃k:Nat,x=(k:Int)∧k<L.length∧lkHolds L (k:Int) w=true:=by
 refine Tells.of (R_t (L,w,())) ?_
 refine Tells.xb (lk_searchH L 0 w (Nat.zero_le _) hL) fun y hy=>?_
 obtain ⟨j0,e0,hj0⟩:=hy
 obtain ⟨y,u⟩:=y
 have e0:y=(j0:Int):=e0
 subst e0
 refine Tells.xb (Tells.loop (Q:=fun r:(Unit×(Unit×((List Int)×Unit))) ⊕ Empty=>match r with | .inl y=>List.length y.2.2.1≤L.length∧∀x:Int,x∈y.2.2.1↔∃k:Nat,x=(k:Int)∧k<L.length∧lkHolds L (k:Int) w=true | .inr y=>False)
  (fun s=>∃(j:Nat) (A:List Int),s=((L,w,(j:Int),()),(),A,())∧j≤L.length∧(j<L.length→lkHolds L (j:Int) w=true)∧A.length≤j∧∀x:Int,x∈A↔∃k:Nat,x=(k:Int)∧k<j∧lkHolds L (k:Int) w=true)
  (fun s=>L.length - s.1.2.2.1.toNat) (fun s hs=>?_) ⟨j0,[],rfl,hj0.2.1,hj0.2.2.1,Nat.zero_le _,fun x=>⟨fun h=>(by cases h),fun ⟨k,_,h2,h3⟩=>by have:lkHolds L (k:Int) w=false:=hj0.2.2.2 k (Nat.zero_le _) h2;rw [h3] at this;cases this⟩⟩ ?_) (fun y hy=>?_)
 ·obtain ⟨j,A,rfl,hj,hp,hA,hm⟩:=hs
  refine Tells.br (fun h=>?_) (fun h=>?_)
  ·have hk:j<L.length:=by have:=of_decide_eq_true h;show j<L.length;exact Int.ofNat_lt.1 this
   refine Tells.gd ?_ (Tells.gd (inI_nat hk (by omega)) ?_)
   ·show (Nat.ble (A.length+1) 9223372036854775807&&Nat.ble ((A.length+1)*8) 140737488355328)=true
    rw [Bool.and_eq_true,Nat.ble_eq,Nat.ble_eq];omega
   refine Tells.xb (lk_searchH L (j+1) w hk hL) fun z hz=>?_
   obtain ⟨j2,e2,hj2⟩:=hz
   obtain ⟨z,u2⟩:=z
   have e2:z=(j2:Int):=e2
   subst e2
   refine ⟨_,rfl,⟨j2,A++[(j:Int)],rfl,hj2.2.1,hj2.2.2.1,?_,fun x=>?_⟩,?_⟩
   ·rw [List.length_append];have:=hj2.1;simp only [List.length_singleton];omega
   ·rw [List.mem_append,List.mem_singleton,hm x]
    constructor
    ·rintro (⟨k,h1,h2,h3⟩ | rfl)
     ·exact ⟨k,h1,by have:=hj2.1;omega,h3⟩
     ·exact ⟨j,rfl,by have:=hj2.1;omega,hp hk⟩
    ·rintro ⟨k,h1,h2,h3⟩
     by_cases c:k<j
     ·exact .inl ⟨k,h1,c,h3⟩
     ·by_cases c2:k=j
      ·subst c2;exact .inr h1
      ·have:lkHolds L (k:Int) w=false:=hj2.2.2.2 k (by omega) h2
       rw [h3] at this;cases this
   ·show L.length - (j2:Int).toNat<L.length - (j:Int).toNat
    have:=hj2.1
    simp only [Int.toNat_natCast];omega
  ·have hk:¬ j<L.length:=fun c=>by have:=of_decide_eq_false h;exact this (Int.ofNat_lt.2 c)
   obtain rfl:j=L.length:=by omega
   exact ⟨_,rfl,by show List.length A≤_;omega,hm⟩
 ·show L.length - (j0:Int).toNat<xmany
  exact xmany_gt (by omega)
 ·match y,hy with
  | .inl y,hy=>exact ⟨_,rfl,hy⟩
theorem sl_Contains (L:List Int) (x:Int) (hL:L.length≤1000000):Tells (F_00 (L,x,())) fun r:Bool×Unit=>(r.1=true↔x∈L):=by
 refine Tells.of (R_s (L,x,())) ?_
 have key:Tells (F_Z (L,x,())) fun r:Int×Unit=>(r.1≥(0:Int)↔x∈L):=by
  refine Tells.of (R_r (L,x,())) ?_
  refine Tells.xb (Tells.idx (Q:=fun r=>match r with | .inl y=>(y.1.1≥(0:Int)↔x∈L) | .inr (.inl y)=>¬ x∈L | .inr (.inr y)=>False) (fun k=>((L,x,(L.length:Int),(k:Int),()),(),())) (fun j=>∀k,(h:k<L.length)→k<j→x≠L[k]) L.length (by omega) (fun k h1 h2=>by omega) (fun k hk hI=>?_) (fun hI=>?_) rfl) (fun y hy=>?_)
  ·refine Tells.br (fun _=>?_) (fun h=>absurd (ltN_of hk) (by rw [h];simp))
   refine Tells.gd (inR_of hk) (Tells.gd (ltT_of hk) ?_)
   have eg:L.getD (Int.toNat (k:Int)) 0=L[k]:=by rw [Int.toNat_natCast];exact getD_lt hk
   refine Tells.br (fun h=>?_) (fun h=>?_)
   ·have h:x=L.getD (Int.toNat (k:Int)) 0:=eq_of_beq (α:=Int) h
    refine ⟨_,rfl,⟨fun _=>?_,fun _=>Int.natCast_nonneg k⟩⟩
    rw [h,eg];exact List.getElem_mem hk
   ·have h:x≠L.getD (Int.toNat (k:Int)) 0:=ne_of_beq_false (α:=Int) h
    refine Tells.gd (inI_nat hk (by omega)) ⟨_,rfl,rfl,fun m h1 h2=>?_⟩
    by_cases e:m=k
    ·subst e;rw [← eg];exact h
    ·exact hI m h1 (by omega)
  ·refine Tells.br (fun h=>absurd ltN_no (by rw [h];simp)) (fun _=>⟨_,rfl,fun hm=>?_⟩)
   obtain ⟨k,hk,e⟩:=List.getElem_of_mem hm
   exact hI k hk hk e.symm
  ·match y,hy with
   | .inl y,hy=>exact ⟨_,rfl,hy⟩
   | .inr (.inl y),hy=>exact ⟨_,rfl,⟨fun h=>absurd h (by decide),fun h=>absurd h hy⟩⟩
 refine Tells.xb key fun y hy=>⟨_,rfl,?_⟩
 exact decide_eq_true_iff.trans hy
end Go.Proofs.YtdbjakibneeeiaaGreatDoor.Ex
namespace Go.Proofs.YtdbjakibneeeiaaGreatDoor.Ex
open Go.RowKit Sx
def ClOk (L:List P_0):Prop:=L.length≤1000000∧∀c∈L,List.length c.1≤1000000∧∀a:P_3,a∈c.1→List.length a.2.2.1≤1000000
theorem copiedShards_eq (L:List P_0) (h:ClOk L):F_C (L,())=some (L,()):=by
 refine Tells.of_eq (Q:=fun _=>True) (Tells.of (R_8 (L,())) ?_)
 refine Tells.xbe (clF_eq h.1) ?_
 have hL:L.length≤9223372036854775807:=Nat.le_trans h.1 (by decide)
 refine Tells.xb (Tells.idx (Q:=fun r=>match r with | .inl y=>y.2.2.1=L | .inr y=>False) (fun k=>(((L.length:Int),(k:Int),()),(),L,())) (fun _=>True) L.length hL trivial (fun k hk _=>?_) (fun _=>?_) rfl) (fun y hy=>?_)
 ·have eg:L.getD (Int.toNat (k:Int)) ([],(0:Int),())=L[k]:=by rw [Int.toNat_natCast];exact getD_lt hk
  have hm:L[k]∈L:=List.getElem_mem hk
  refine Tells.br (fun _=>?_) (fun h=>absurd (ltN_of hk) (by rw [h];simp))
  refine Tells.gd (inR_of hk) (Tells.gd (ltT_of hk) ?_)
  have e1:clF (L.getD (Int.toNat (k:Int)) ([],(0:Int),())).1=some L[k].1:=by rw [eg];exact clF_eq (h.2 _ hm).1
  refine Tells.xbe e1 ?_
  have hA:List.length L[k].1≤9223372036854775807:=Nat.le_trans (h.2 _ hm).1 (by decide)
  refine Tells.xb (Tells.idx (Q:=fun r=>match r with | .inl y=>y=(((k:Int),(L.length:Int),(k:Int),()),(),L,L[k].1,()) | .inr y=>False) (fun i=>(((k:Int),(L.length:Int),(k:Int),((List.length L[k].1:Nat):Int),(i:Int),()),(),L,L[k].1,())) (fun _=>True) (List.length L[k].1) hA trivial (fun i hi _=>?_) (fun _=>?_) rfl) (fun y hy=>?_)
  ·have eg2:(L[k].1:List P_3).getD (Int.toNat (i:Int)) ((0:Int),(0:Int),[],())=(L[k].1:List P_3)[i]:=by rw [Int.toNat_natCast];exact getD_lt hi
   have hm2:(L[k].1:List P_3)[i]∈(L[k].1:List P_3):=List.getElem_mem hi
   refine Tells.br (fun _=>?_) (fun h=>absurd (ltN_of hi) (by rw [h];simp))
   refine Tells.gd (inR_of hi) (Tells.gd (ltT_of hi) ?_)
   have e2:clF ((L[k].1:List P_3).getD (Int.toNat (i:Int)) ((0:Int),(0:Int),[],())).2.2.1=some ((L[k].1:List P_3)[i]).2.2.1:=by rw [eg2];exact clF_eq ((h.2 _ hm).2 _ hm2)
   refine Tells.xbe e2 (Tells.gd (inR_of hi) (Tells.gd (ltT_of hi) (Tells.gd (inI_nat hi hA) ⟨_,rfl,?_,trivial⟩)))
   show ((_,_,_,_,(i:Int)+1,()),(),L,List.set (L[k].1:List P_3) (Int.toNat (i:Int)) (((L[k].1:List P_3).getD (Int.toNat (i:Int)) ((0:Int),(0:Int),[],())).1,((L[k].1:List P_3).getD (Int.toNat (i:Int)) ((0:Int),(0:Int),[],())).2.1,((L[k].1:List P_3)[i]).2.2.1,()),())=_
   have e3:List.set (L[k].1:List P_3) (Int.toNat (i:Int)) (((L[k].1:List P_3).getD (Int.toNat (i:Int)) ((0:Int),(0:Int),[],())).1,((L[k].1:List P_3).getD (Int.toNat (i:Int)) ((0:Int),(0:Int),[],())).2.1,((L[k].1:List P_3)[i]).2.2.1,())=L[k].1:=by
    rw [eg2,Int.toNat_natCast];exact List.set_getElem_self hi
   rw [e3];rfl
  ·exact Tells.br (fun h=>absurd ltN_no (by rw [h];simp)) (fun _=>⟨_,rfl,rfl⟩)
  ·match y,hy with
   | .inl y,e=>
    subst e
    refine Tells.gd (inR_of hk) (Tells.gd (ltT_of hk) (Tells.gd (inI_nat hk hL) ⟨_,rfl,?_,trivial⟩))
    show ((_,(k:Int)+1,()),(),List.set L (Int.toNat (k:Int)) (L[k].1,(L.getD (Int.toNat (k:Int)) ([],(0:Int),())).2),())=_
    have e3:List.set L (Int.toNat (k:Int)) (L[k].1,(L.getD (Int.toNat (k:Int)) ([],(0:Int),())).2)=L:=by
     rw [eg,Int.toNat_natCast];exact List.set_getElem_self hk
    rw [e3];rfl
 ·exact Tells.br (fun h=>absurd ltN_no (by rw [h];simp)) (fun _=>⟨_,rfl,rfl⟩)
 ·match y,hy with
  | .inl (u1,u2,y,u3),e=>
   have e:y=L:=e
   subst e
   exact ⟨_,rfl,rfl⟩
def TkCl (v:P_1):Prop:=List.length v.2.2.2.2.1≤1000000∧ClOk v.2.2.2.2.2.1∧List.length v.2.2.2.2.2.2.1.2.2.1≤1000000
theorem copied_eq (v:P_1) (h:TkCl v):F_D (v,())=some (v,()):=by
 refine (R_9 (v,())).trans ?_
 refine (xb_e (clF_eq h.1)).trans ?_
 refine (xb_e (copiedShards_eq _ h.2.1)).trans ?_
 exact xb_e (clF_eq h.2.2)
def SgCl (s:P_2):Prop:=List.length s.2.1≤1000000∧ClOk s.2.2.2.1
theorem copiedSight_eq (s:P_2) (h:SgCl s):F_E (s,())=some (s,()):=by
 refine (R_a (s,())).trans ?_
 refine (xb_e (clF_eq h.1)).trans ?_
 exact xb_e (copiedShards_eq _ h.2)
theorem q_within (x a b:Int):F_k (x,a,b,())=some (decide (a≤x)&&decide (x≤b),()):=by
 refine (R_n (x,a,b,())).trans ?_
 show xbr (decide (a≤x)==true) (some (decide (x≤b),())) (some (false,()))=_
 cases decide (a≤x) <;> rfl
theorem p_within (x a b:Int):F_7 (x,a,b,())=some (decide (a≤x)&&decide (x≤b),()):=by
 refine (R_q (x,a,b,())).trans ?_
 show xbr (decide (a≤x)==true) (some (decide (x≤b),())) (some (false,()))=_
 cases decide (a≤x) <;> rfl
theorem p_Config (c:P_5):Tells (F_X (c,())) fun r=>r.1=true→1≤c.1∧c.1≤8:=by
 refine Tells.of (R_p (c,())) ?_
 refine Tells.xbe (p_within _ _ _) ?_
 refine Tells.br (fun h=>?_) (fun _=>⟨_,rfl,fun h=>by cases h⟩)
 have h0:1≤c.1∧c.1≤8:=by
  have:=eq_of_beq h
  rw [Bool.and_eq_true,decide_eq_true_iff,decide_eq_true_iff] at this
  exact this
 iterate 6
  refine Tells.xbe (p_within _ _ _) ?_
  refine Tells.br (fun _=>?_) (fun _=>⟨_,rfl,fun h=>by cases h⟩)
 refine Tells.xbe (p_within _ _ _) ?_
 exact ⟨_,rfl,fun _=>h0⟩
theorem t_2W (t:P_4):F_U (t,())=some ((txn.Tx.mk t.1 t.2.1 t.2.2.1 t.2.2.2.1 t.2.2.2.2.1 t.2.2.2.2.2.1).ok,()):=by unfold F_U;rfl
theorem q_rises (a:P_3) (h:List.length a.2.2.1≤1000000):Tells (F_Y (a,())) fun _=>True:=by
 refine Tells.of (R_o (a,())) ?_
 obtain ⟨s,b,L,u⟩:=a
 have hL:L.length≤9223372036854775807:=Nat.le_trans h (by decide)
 refine Tells.xb (Tells.cnt (Q:=fun r=>match r with | .inr (.inr y)=>False | _=>True) (fun k st=>∃m:Int,st=((m,L,(L.length:Int),(k:Int),()),(((s,b,L,u),()),()),())) L.length hL (fun k st hk hI=>?_) (fun st hI=>?_) ⟨b,rfl⟩) (fun y hy=>?_)
 ·obtain ⟨m,rfl⟩:=hI
  refine Tells.br (fun _=>?_) (fun h=>absurd (ltN_of hk) (by rw [h];simp))
  refine Tells.gd (inR_of hk) (Tells.gd (ltT_of hk) ?_)
  refine Tells.xbe (t_2W _) ?_
  refine Tells.br (fun hc=>?_) (fun _=>⟨_,rfl,trivial⟩)
  refine Tells.br (fun _=>?_) (fun _=>⟨_,rfl,trivial⟩)
  refine Tells.br (fun _=>⟨_,rfl,trivial⟩) (fun _=>?_)
  refine Tells.gd ?_ (Tells.gd (inI_nat hk hL) ⟨_,rfl,_,rfl⟩)
  have hc:=not_f (eq_of_beq hc)
  obtain ⟨_,_,n0,n1,_⟩:=of_decide_eq_true hc
  exact inI_of (Int.le_trans (by decide) (Int.add_nonneg n0 (by decide))) (Int.le_trans (Int.add_le_add_right n1 1) (by decide))
 ·obtain ⟨m,rfl⟩:=hI
  exact Tells.br (fun h=>absurd ltN_no (by rw [h];simp)) (fun _=>⟨_,rfl,trivial⟩)
 ·match y,hy with
  | .inl y,_=>exact ⟨_,rfl,trivial⟩
  | .inr (.inl y),_=>exact ⟨_,rfl,trivial⟩
theorem q_Check (a:P_3) (p:Int) (h:List.length a.2.2.1≤1000000):Tells (F_l (a,p,())) fun _=>True:=by
 refine Tells.of (R_m (a,p,())) ?_
 iterate 2
  refine Tells.xbe (q_within _ _ _) ?_
  refine Tells.br (fun _=>?_) (fun _=>⟨_,rfl,trivial⟩)
 refine Tells.xbe (q_within _ _ _) ?_
 refine Tells.br (fun _=>⟨_,rfl,trivial⟩) (fun _=>?_)
 refine Tells.br (fun _=>?_) (fun _=>⟨_,rfl,trivial⟩)
 exact Tells.xb (q_rises a h) fun y _=>⟨_,rfl,trivial⟩
theorem s_o (a:P_3):Tells (F_y (a,())) fun _=>True:=by
 refine Tells.of (R_l (a,())) ?_
 exact Tells.br (fun _=>⟨_,rfl,trivial⟩) (fun _=>⟨_,rfl,trivial⟩)
theorem f_Shard (s n:Int):F_s (s,n,())=some (fnv.shardV s n,()):=by unfold F_s;rfl
theorem s_F (c:P_0) (k:Int) (g:P_5) (h:List.length c.1≤1000000) (h2:∀a:P_3,a∈c.1→List.length a.2.2.1≤1000000):Tells (F_z (c,k,g,())) fun _=>True:=by
 refine Tells.of (R_k (c,k,g,())) ?_
 refine Tells.br (fun _=>?_) (fun _=>⟨_,rfl,trivial⟩)
 refine Tells.br (fun _=>⟨_,rfl,trivial⟩) (fun _=>?_)
 obtain ⟨L,v,u⟩:=c
 have hL:L.length≤9223372036854775807:=Nat.le_trans h (by decide)
 refine Tells.xb (Tells.idx (Q:=fun r=>match r with | .inr (.inr y)=>False | _=>True) (fun i=>((k,L,(L.length:Int),(i:Int),()),((((L,v,u),()),(g,()),()),()))) (fun _=>True) L.length hL trivial (fun i hi _=>?_) (fun _=>?_) rfl) (fun y hy=>?_)
 ·refine Tells.br (fun _=>?_) (fun h=>absurd (ltN_of hi) (by rw [h];simp))
  refine Tells.gd (inR_of hi) (Tells.gd (ltT_of hi) ?_)
  have eg:(L:List P_3).getD (Int.toNat (i:Int)) ((0:Int),(0:Int),[],())=L[i]:=by rw [Int.toNat_natCast];exact getD_lt hi
  have hm:L[i]∈L:=List.getElem_mem hi
  have hq:∀p:Int,Tells (F_l ((L:List P_3).getD (Int.toNat (i:Int)) ((0:Int),(0:Int),[],()),p,())) fun _=>True:=fun p=>by
   rw [eg];exact q_Check _ p (h2 _ hm)
  refine Tells.br (fun hp=>?_) (fun _=>?_)
  ·have hp:(0:Int)<(i:Int):=of_decide_eq_true (eq_of_beq hp)
   refine Tells.gd (inI_of (by show _≤(i:Int) - 1;omega) (by show (i:Int) - 1≤_;omega)) ?_
   refine Tells.gd (inR_iff.2 ⟨by show (0:Int)≤(i:Int) - 1;omega,by show (i:Int) - 1<(L.length:Int);omega⟩) (Tells.gd (decide_eq_true (by show Int.toNat ((i:Int) - 1)<L.length;omega)) ?_)
   refine Tells.br (fun _=>⟨_,rfl,trivial⟩) (fun _=>?_)
   refine Tells.xb (hq _) fun y _=>?_
   refine Tells.br (fun _=>?_) (fun _=>⟨_,rfl,trivial⟩)
   refine Tells.xb (s_o _) fun y _=>?_
   refine Tells.br (fun _=>?_) (fun _=>⟨_,rfl,trivial⟩)
   refine Tells.xbe (f_Shard _ _) ?_
   refine Tells.br (fun _=>⟨_,rfl,trivial⟩) (fun _=>?_)
   exact Tells.gd (inI_nat hi hL) ⟨_,rfl,rfl,trivial⟩
  ·refine Tells.xb (hq _) fun y _=>?_
   refine Tells.br (fun _=>?_) (fun _=>⟨_,rfl,trivial⟩)
   refine Tells.xb (s_o _) fun y _=>?_
   refine Tells.br (fun _=>?_) (fun _=>⟨_,rfl,trivial⟩)
   refine Tells.xbe (f_Shard _ _) ?_
   refine Tells.br (fun _=>⟨_,rfl,trivial⟩) (fun _=>?_)
   exact Tells.gd (inI_nat hi hL) ⟨_,rfl,rfl,trivial⟩
 ·exact Tells.br (fun h=>absurd ltN_no (by rw [h];simp)) (fun _=>⟨_,rfl,trivial⟩)
 ·match y,hy with
  | .inl y,_=>exact ⟨_,rfl,trivial⟩
  | .inr (.inl y),_=>exact ⟨_,rfl,trivial⟩
def MayOk (s:P_2):Prop:=(List.length s.2.1:Int)=s.1.1∧List.length s.2.2.2.1=List.length s.2.1∧1≤List.length s.2.1∧List.length s.2.1≤8∧∀x∈s.2.1,(0:Int)≤x
theorem t_2X (s:P_2) (h:SgCl s):Tells (F_A (s,())) fun r=>r.1=true→MayOk s:=by
 refine Tells.of (R_j (s,())) ?_
 refine Tells.xb (p_Config _) fun y hy=>?_
 refine Tells.br (fun h1=>?_) (fun _=>⟨_,rfl,fun h=>by cases h⟩)
 obtain ⟨c1,c2⟩:1≤s.1.1∧s.1.1≤8:=hy (not_f (eq_of_beq h1))
 refine Tells.br (fun h2=>?_) (fun _=>⟨_,rfl,fun h=>by cases h⟩)
 refine Tells.br (fun _=>⟨_,rfl,fun h=>by cases h⟩) (fun h3=>?_)
 have h2:(List.length s.2.1:Int)=s.1.1:=by
  have:=eq_of_beq h2
  simpa using this
 have h3:(List.length s.2.2.2.1:Int)=s.1.1:=by simpa using h3
 have hn:List.length s.2.2.2.1=List.length s.2.1:=by omega
 have hL:List.length s.2.1≤9223372036854775807:=Nat.le_trans h.1 (by decide)
 refine Tells.xb (Tells.idx (Q:=fun r=>match r with | .inl y=>y.1.1=false | .inr (.inl y)=>y.2.1.1.1=s∧∀x∈s.2.1,(0:Int)≤x | .inr (.inr y)=>False) (fun i=>((s.1.1,(i:Int),()),(((s,()),()),()))) (fun i=>∀x∈List.take i s.2.1,(0:Int)≤x) (List.length s.2.1) hL (by simp) (fun i hi hI=>?_) (fun hI=>?_) rfl) (fun y hy=>?_)
 ·have hl:decide ((i:Int)<s.1.1)=true:=decide_eq_true (by omega)
  refine Tells.br (fun _=>?_) (fun h=>absurd hl (by rw [h];simp))
  refine Tells.gd (inR_of hi) (Tells.gd (ltT_of hi) ?_)
  have hi2:i<List.length s.2.2.2.1:=by omega
  refine Tells.br (fun h0=>?_) (fun _=>⟨_,rfl,rfl⟩)
  refine Tells.gd (inR_of hi2) (Tells.gd (ltT_of hi2) ?_)
  have eg:(s.2.2.2.1:List P_0).getD (Int.toNat (i:Int)) ([],(0:Int),())=(s.2.2.2.1:List P_0)[i]:=by rw [Int.toNat_natCast];exact getD_lt hi2
  have hm:(s.2.2.2.1:List P_0)[i]∈(s.2.2.2.1:List P_0):=List.getElem_mem hi2
  have hq:Tells (F_z ((s.2.2.2.1:List P_0).getD (Int.toNat (i:Int)) ([],(0:Int),()),(i:Int),s.1,())) fun _=>True:=by
   rw [eg];exact s_F _ _ _ (h.2.2 _ hm).1 (h.2.2 _ hm).2
  refine Tells.xb hq fun y _=>?_
  refine Tells.br (fun _=>⟨_,rfl,rfl⟩) (fun _=>?_)
  refine Tells.gd (inI_nat hi hL) ⟨_,rfl,rfl,fun x hx=>?_⟩
  rw [List.take_succ_eq_append_getElem hi,List.mem_append] at hx
  rcases hx with hx | hx
  ·exact hI x hx
  ·rw [List.mem_singleton] at hx
   have e2:(s.2.1:List Int).getD (Int.toNat (i:Int)) 0=(s.2.1:List Int)[i]:=by rw [Int.toNat_natCast];exact getD_lt hi
   have h0:=of_decide_eq_false (eq_of_beq h0)
   rw [hx,← e2]
   exact Int.not_lt.1 h0
 ·have hl:decide (((List.length s.2.1:Nat):Int)<s.1.1)=false:=decide_eq_false (by omega)
  exact Tells.br (fun h=>absurd hl (by rw [h];simp)) (fun _=>⟨_,rfl,rfl,fun x hx=>hI x (by rw [List.take_length];exact hx)⟩)
 ·match y,hy with
  | .inl y,e=>exact ⟨_,rfl,fun h=>by rw [show y.1.1=false from e] at h;cases h⟩
  | .inr (.inl y),⟨e,hx⟩=>
   refine Tells.br (fun _=>?_) (fun _=>⟨_,rfl,fun h=>by cases h⟩)
   refine Tells.br (fun _=>?_) (fun _=>⟨_,rfl,fun h=>by cases h⟩)
   exact ⟨_,rfl,fun _=>⟨h2,hn,by omega,by omega,hx⟩⟩
def AblePh (v:P_1) (w:Int) (s:P_2):Prop:=
 (v.2.1=0∧0≤v.2.2.1∧v.2.2.1<(List.length s.2.1:Int))∨(v.2.1=1∧0≤v.2.2.1∧v.2.2.1<(List.length s.2.1:Int))∨(v.2.1=2∧0≤v.2.2.1∧v.2.2.1<(List.length s.2.1:Int))∨(v.2.1=3∧lkFree s.2.1 v.2.2.1=true)∨
 (v.2.1=4∧∀k,k<List.length s.2.1→lkHolds s.2.1 (k:Int) w=true)∨(v.2.1=5∧(0≤v.2.2.1∧v.2.2.1<(List.length s.2.1:Int))∧lkHolds s.2.1 v.2.2.1 w=true)
theorem able_tells (v:P_1) (w:Int) (s:P_2) (h:SgCl s):∃m:Bool,F_A (s,())=some (m,())∧(m=true→MayOk s)∧Tells (F_9 (v,w,s,())) fun r=>r.1=true↔(1≤w∧m=true∧AblePh v w s):=by
 obtain ⟨⟨m,u⟩,em,hm⟩:=t_2X s h
 refine ⟨m,em,hm,?_⟩
 refine Tells.of (R_v (v,w,s,())) ?_
 refine Tells.br (fun hw=>?_) (fun hw=>⟨_,rfl,?_⟩)
 rotate_left
 ·have:w<1:=by
   by_cases c:w<1
   ·exact c
   ·have hw:(decide (w<(1:Int))==false)=false:=hw
    rw [decide_eq_false c] at hw;cases hw
  exact ⟨fun h=>(by cases h),fun h=>by omega⟩
 have hw:1≤w:=Int.not_lt.1 (of_decide_eq_false (eq_of_beq hw))
 refine Tells.xbe em ?_
 refine Tells.br (fun h1=>⟨_,rfl,⟨fun h=>(by cases h),fun h=>?_⟩⟩) (fun h1=>?_)
 ·have h1:(!m)=true:=h1
  rw [h.2.1] at h1;cases h1
 have h1:m=true:=not_f h1
 have hmo:=hm h1
 have hlen:(((List.length s.2.2.2.1:Nat):Int))=(List.length s.2.1:Int):=by rw [hmo.2.1]
 have lo:∀{ph:Int},ph=0∨ph=1∨ph=2→v.2.1=ph→Tells (xbr (decide ((0:Int)≤v.2.2.1)==true) (some (decide (v.2.2.1<((List.length s.2.2.2.1:Nat):Int)),())) (some (false,()))) fun r:Bool×Unit=>r.1=true↔(1≤w∧m=true∧AblePh v w s):=by
  intro ph hph hv
  have hi:AblePh v w s↔(0≤v.2.2.1∧v.2.2.1<(List.length s.2.1:Int)):=by
   unfold AblePh
   constructor
   ·rintro (⟨_,h⟩ | ⟨_,h⟩ | ⟨_,h⟩ | ⟨h,_⟩ | ⟨h,_⟩ | ⟨h,_⟩)
    ·exact h
    ·exact h
    ·exact h
    all_goals (exfalso;omega)
   ·intro h
    rcases hph with rfl | rfl | rfl
    ·exact .inl ⟨hv,h⟩
    ·exact .inr (.inl ⟨hv,h⟩)
    ·exact .inr (.inr (.inl ⟨hv,h⟩))
  rw [hi,hlen]
  refine Tells.br (fun h=>⟨_,rfl,?_⟩) (fun h=>⟨_,rfl,?_⟩)
  ·have h:=of_decide_eq_true (eq_of_beq h)
   exact decide_eq_true_iff.trans ⟨fun k=>⟨hw,h1,h,k⟩,fun k=>k.2.2.2⟩
  ·have h:¬ (0:Int)≤v.2.2.1:=fun c=>by rw [decide_eq_true c] at h;cases h
   exact ⟨fun k=>(by cases k),fun k=>absurd k.2.2.1 h⟩
 refine Tells.br (fun p=>lo (ph:=0) (by simp) (eq_of_beq (α:=Int) p)) (fun p0=>?_)
 refine Tells.br (fun p=>lo (ph:=1) (by simp) (eq_of_beq (α:=Int) p)) (fun p1=>?_)
 refine Tells.br (fun p=>lo (ph:=2) (by simp) (eq_of_beq (α:=Int) p)) (fun p2=>?_)
 have p0:v.2.1≠0:=ne_of_beq_false (α:=Int) p0
 have p1:v.2.1≠1:=ne_of_beq_false (α:=Int) p1
 have p2:v.2.1≠2:=ne_of_beq_false (α:=Int) p2
 refine Tells.br (fun p=>?_) (fun p3=>?_)
 ·have p:v.2.1=3:=eq_of_beq (α:=Int) p
  refine Tells.xbe (lk_Free _ _) ⟨_,rfl,?_⟩
  show lkFree s.2.1 v.2.2.1=true↔_
  unfold AblePh
  constructor
  ·intro k;exact ⟨hw,h1,.inr (.inr (.inr (.inl ⟨p,k⟩)))⟩
  ·rintro ⟨_,_,(⟨h,_⟩ | ⟨h,_⟩ | ⟨h,_⟩ | ⟨_,h⟩ | ⟨h,_⟩ | ⟨h,_⟩)⟩
   any_goals (exfalso;omega)
   exact h
 have p3:v.2.1≠3:=ne_of_beq_false (α:=Int) p3
 refine Tells.br (fun p=>?_) (fun p4=>?_)
 ·have p:v.2.1=4:=eq_of_beq (α:=Int) p
  refine Tells.xb (lk_First _ _ h.1) fun y hy=>⟨_,rfl,?_⟩
  obtain ⟨j,e,hj⟩:=hy
  have e:(show Int from y.1)=(j:Int):=e
  have hj:IsNext (fun k=>!lkHolds s.2.1 (k:Int) w) (List.length s.2.1) 0 j:=hj
  have hq:((show Int from y.1)==((List.length s.2.1:Nat):Int))=true↔∀k,k<List.length s.2.1→lkHolds s.2.1 (k:Int) w=true:=by
   refine (beq_iff_eq (α:=Int)).trans ?_
   rw [e]
   constructor
   ·intro e2 k hk
    have e2:(j:Int)=((List.length s.2.1:Nat):Int):=e2
    have:=hj.2.2.2 k (Nat.zero_le _) (by omega)
    have:(!lkHolds s.2.1 (k:Int) w)=false:=this
    exact not_f this
   ·intro ha
    have:=hj.2.1
    show (j:Int)=((List.length s.2.1:Nat):Int)
    by_cases c:j<List.length s.2.1
    ·have h2:(!lkHolds s.2.1 (j:Int) w)=true:=hj.2.2.1 c
     rw [ha j c] at h2;cases h2
    ·omega
  refine hq.trans ?_
  unfold AblePh
  constructor
  ·intro k;exact ⟨hw,h1,.inr (.inr (.inr (.inr (.inl ⟨p,k⟩))))⟩
  ·rintro ⟨_,_,(⟨h,_⟩ | ⟨h,_⟩ | ⟨h,_⟩ | ⟨h,_⟩ | ⟨_,h⟩ | ⟨h,_⟩)⟩
   any_goals (exfalso;omega)
   exact h
 have p4:v.2.1≠4:=ne_of_beq_false (α:=Int) p4
 refine Tells.br (fun p=>?_) (fun p5=>⟨_,rfl,?_⟩)
 ·have p:v.2.1=5:=eq_of_beq (α:=Int) p
  refine Tells.xb (lk_Held _ _ h.1) fun y hy=>?_
  refine Tells.xb (sl_Contains _ _ (Nat.le_trans hy.1 h.1)) fun z hz=>⟨_,rfl,?_⟩
  refine hz.trans ((hy.2 v.2.2.1).trans ?_)
  show (∃k:Nat,v.2.2.1=(k:Int)∧k<List.length s.2.1∧lkHolds s.2.1 (k:Int) w=true)↔_
  unfold AblePh
  constructor
  ·rintro ⟨k,e,hk,hh⟩
   refine ⟨hw,h1,.inr (.inr (.inr (.inr (.inr ⟨p,⟨by omega,by omega⟩,?_⟩))))⟩
   rw [e];exact hh
  ·rintro ⟨_,_,(⟨h,_⟩ | ⟨h,_⟩ | ⟨h,_⟩ | ⟨h,_⟩ | ⟨h,_⟩ | ⟨_,h,hh⟩)⟩
   any_goals (exfalso;omega)
   exact ⟨v.2.2.1.toNat,by omega,by omega,by rw [Int.toNat_of_nonneg h.1];exact hh⟩
 ·have p5:v.2.1≠5:=ne_of_beq_false (α:=Int) p5
  refine ⟨fun h=>(by cases h),?_⟩
  unfold AblePh
  rintro ⟨_,_,(⟨h,_⟩ | ⟨h,_⟩ | ⟨h,_⟩ | ⟨h,_⟩ | ⟨h,_⟩ | ⟨h,_⟩)⟩ <;> (exfalso;omega)
end Go.Proofs.YtdbjakibneeeiaaGreatDoor.Ex
namespace Go.Proofs.YtdbjakibneeeiaaGreatDoor.Ex
open Go.RowKit Sx
def AcG (a:P_3):Prop:=AcOk a∧inI a.1=true
def ShG (c:P_0):Prop:=List.length c.1≤20∧∀a:P_3,a∈c.1→AcG a
def SssG (n:Nat) (L:List P_0):Prop:=L.length≤n∧∀c:P_0,c∈L→ShG c
theorem SssG.cl {n:Nat} {L:List P_0} (h:SssG n L) (hn:n≤1000000):ClOk L:=
 ⟨Nat.le_trans h.1 hn,fun c hc=>⟨Nat.le_trans (h.2 c hc).1 (by decide),fun a ha=>Nat.le_trans ((h.2 c hc).2 a ha).1.1 (by decide)⟩⟩
theorem SssG.mono {n m:Nat} {L:List P_0} (h:SssG n L) (hn:n≤m):SssG m L:=⟨Nat.le_trans h.1 hn,h.2⟩
def accsC (c:P_0):List P_3:=c.1
def allP (L:List P_0):List P_3:=L.flatMap accsC
def pTx (t:P_4):txn.Tx:=queue.txOf t
def toTxP (t:txn.Tx):P_4:=queue.toTx t
def pAcc (x:P_3):shard.PA:=shard.accOf x
def toAccP (p:shard.PA):P_3:=shard.toAcc p
theorem allD_eq:∀L:List P_0,shard.allD L=allP L
 | []=>rfl
 | c::L=>by
  show List.append (accsC c) (shard.allD L)=allP (c::L)
  have:=allD_eq L
  exact (congrArg (List.append (accsC c)) this).trans (by unfold allP;rfl)
def joinV (L:List P_0):List shard.PA:=shard.srt (fun p:shard.PA=>p.1) ((allP L).map pAcc)
theorem joinP_eq (L:List P_0):shard.joinP L=joinV L:=by
 show shard.srt (fun p:shard.PA=>p.1) (List.map pAcc (shard.allD L))=_
 exact congrArg (fun M:List P_3=>shard.srt (fun p:shard.PA=>p.1) (M.map pAcc)) (allD_eq L)
def joinD (L:List P_0):List P_3:=(joinV L).map toAccP
theorem tx_back:(toTxP∘pTx)=id:=funext fun t=>rfl
theorem tx_fwd:(pTx∘toTxP)=id:=funext fun t=>rfl
theorem acc_back:∀x:P_3,toAccP (pAcc x)=x
 | (s,b,L,u)=>by
  show (s,b,(List.map toTxP (List.map pTx L)),())=(s,b,L,u)
  rw [List.map_map,tx_back,List.map_id]
theorem acc_fwd:∀p:shard.PA,pAcc (toAccP p)=p
 | (s,b,L)=>by
  show (s,b,List.map pTx (List.map toTxP L))=(s,b,L)
  rw [List.map_map,tx_fwd,List.map_id]
theorem accs_fwd:(pAcc∘toAccP)=id:=funext acc_fwd
theorem joinD_back (L:List P_0):(joinD L).map pAcc=joinV L:=by
 unfold joinD
 rw [List.map_map,accs_fwd,List.map_id]
theorem allP_mem {x:P_3} {L:List P_0}:x∈allP L↔∃c:P_0,c∈L∧x∈accsC c:=List.mem_flatMap
theorem joinD_mem {L:List P_0} {x:P_3} (h:x∈joinD L):x∈allP L:=by
 obtain ⟨p,hp,rfl⟩:=List.mem_map.1 h
 obtain ⟨y,hy,rfl⟩:=List.mem_map.1 ((shard.srt_perm _ _).mem_iff.1 hp)
 rw [acc_back];exact hy
theorem joinD_len (L:List P_0):(joinD L).length=(allP L).length:=by
 unfold joinD joinV
 rw [List.length_map,shard.srt_len,List.length_map]
theorem allP_len {n:Nat}:∀{L:List P_0},(∀c:P_0,c∈L→List.length c.1≤n)→(allP L).length≤L.length*n
 | [],_=>by simp [allP]
 | c::L,h=>by
  have h1:(accsC c).length≤n:=h c List.mem_cons_self
  have h2:=allP_len (L:=L) fun x hx=>h x (List.mem_cons_of_mem _ hx)
  have e:allP (c::L)=accsC c++allP L:=rfl
  rw [e,List.length_append,List.length_cons,Nat.succ_mul]
  omega
theorem okT_of {t:P_4} (h:ByteArray.size t.2.2.2.2.2.1≤500):shard.okT t=true:=by
 have:ByteArray.size t.2.2.2.2.2.1≤maxLen:=Nat.le_trans h (by decide)
 exact decide_eq_true this
theorem okA_all {L:List P_4} (h:∀t∈L,ByteArray.size t.2.2.2.2.2.1≤500):L.all (fun t=>shard.okT t)=true:=List.all_eq_true.2 fun t ht=>okT_of (h t ht)
theorem okA_of {a:P_3} (h:AcOk a):shard.okA a=true:=by
 have h1:decide (List.length a.2.2.1≤1000000)=true:=decide_eq_true (Nat.le_trans h.1 (by decide))
 have h2:List.all (a.2.2.1:List P_4) (fun t=>shard.okT t)=true:=okA_all h.2
 exact Bool.and_eq_true_iff.2 ⟨h1,h2⟩
theorem okJ_of {n:Nat} {L:List P_0} (h:SssG n L) (hn:n≤1000):shard.okJ L=true:=by
 have h1:=allP_len (n:=20) (L:=L) fun c hc=>(h.2 c hc).1
 have h2:=h.1
 show (decide (List.length L≤100000)&&(decide (List.length (shard.allD L)≤100000)&&(List.all (shard.allD L) shard.okA&&List.all (shard.allD L) fun x=>inI x.1)))=true
 have key:∀M:List P_3,M=allP L→(decide (List.length L≤100000)&&(decide (List.length M≤100000)&&(List.all M (fun a=>shard.okA a)&&List.all M fun x=>inI x.1)))=true:=by
  intro M hM
  subst hM
  have e1:decide (List.length L≤100000)=true:=decide_eq_true (by omega)
  have e2:decide ((allP L).length≤100000)=true:=decide_eq_true (by omega)
  have e3:List.all (allP L) (fun a=>shard.okA a)=true:=List.all_eq_true.2 fun x hx=>by
   obtain ⟨c,h3,h4⟩:=allP_mem.1 hx
   exact okA_of ((h.2 c h3).2 x h4).1
  have e4:List.all (allP L) (fun x=>inI x.1)=true:=List.all_eq_true.2 fun x hx=>by
   obtain ⟨c,h3,h4⟩:=allP_mem.1 hx
   exact ((h.2 c h3).2 x h4).2
  rw [e1,e2,e3,e4];rfl
 exact key _ (allD_eq L)
theorem join_eq {n:Nat} (L:List P_0) (h:SssG n L) (hn:n≤1000):F_u (L,())=some (joinD L,()):=by
 have e:F_u (L,())=bif shard.okJ L then some (List.map toAccP (shard.joinP L),()) else none:=by unfold F_u;rfl
 rw [e,okJ_of h hn,joinP_eq];rfl
theorem frP_sub (l:List shard.PA) (p:shard.PA):(shard.frP l p).length≤l.length+1∧∀x∈shard.frP l p,x∈l∨x=p:=by
 unfold shard.frP
 split
 ·exact ⟨Nat.le_succ _,fun x h=>.inl h⟩
 ·exact ⟨by simp,fun x h=>by simpa using h⟩
theorem firstsP_sub (P:List shard.PA):(shard.firstsP P).length≤P.length∧∀x∈shard.firstsP P,x∈P:=by
 have key:∀(P l:List shard.PA),(P.foldl shard.frP l).length≤l.length+P.length∧∀x∈P.foldl shard.frP l,x∈l∨x∈P:=by
  intro P
  induction P with
  | nil=>intro l;exact ⟨Nat.le_refl _,fun x h=>.inl h⟩
  | cons p P ih=>
   intro l
   obtain ⟨h1,h2⟩:=ih (shard.frP l p)
   have h3:=frP_sub l p
   refine ⟨by rw [List.foldl_cons,List.length_cons];omega,fun x hx=>?_⟩
   rcases h2 x hx with h | h
   ·rcases h3.2 x h with h | rfl
    ·exact .inl h
    ·exact .inr List.mem_cons_self
   ·exact .inr (List.mem_cons_of_mem _ h)
 obtain ⟨h1,h2⟩:=key P []
 refine ⟨by rw [List.length_nil,Nat.zero_add] at h1;exact h1,fun x hx=>?_⟩
 rcases h2 x hx with h | h
 ·cases h
 ·exact h
theorem sum_leK {k:Nat}:∀{l:List Nat},(∀x∈l,x≤k)→l.sum≤l.length*k
 | [],_=>by simp
 | x::l,h=>by
  have h1:=h x (by simp)
  have h2:=sum_leK (l:=l) fun y hy=>h y (by simp [hy])
  rw [List.sum_cons,List.length_cons,Nat.succ_mul]
  omega
theorem template_len {P:List shard.PA} {n:Nat} (h:∀p∈P,p.2.2.length≤n) (g:Int):(shard.templateP P g).length≤P.length*n:=by
 unfold shard.templateP
 refine Nat.le_trans (greedy.tplV_le _ _) ?_
 unfold greedy.sizeL
 refine Nat.le_trans (sum_leK (k:=n) fun x hx=>?_) ?_
 ·simp only [List.mem_map] at hx
  obtain ⟨l,⟨p,hp,rfl⟩,rfl⟩:=hx
  exact Nat.le_trans (greedy.lineV_le _ _) (h p ((firstsP_sub P).2 p hp))
 ·rw [List.length_map,List.length_map]
  exact Nat.mul_le_mul_right _ (firstsP_sub P).1
def tplP (P:List shard.PA) (g:Int):List P_4:=(shard.templateP P g).map toTxP
def blockP (L:List P_0) (g:Int):P_6:=(0,(0,0,0,0,0,ByteArray.empty,()),tplP (joinV L) g,0,())
theorem joinV_len {n:Nat} {L:List P_0} (h:SssG n L):(joinV L).length≤n*20:=by
 have h1:=allP_len (n:=20) (L:=L) fun c hc=>(h.2 c hc).1
 rw [← joinD_back,List.length_map,joinD_len]
 exact Nat.le_trans h1 (Nat.mul_le_mul_right _ h.1)
theorem joinV_txs {n:Nat} {L:List P_0} (h:SssG n L):∀p∈joinV L,p.2.2.length≤20:=by
 intro p hp
 rw [← joinD_back] at hp
 obtain ⟨a,ha,rfl⟩:=List.mem_map.1 hp
 obtain ⟨c,h1,h2⟩:=allP_mem.1 (joinD_mem ha)
 have h3:(List.map pTx a.2.2.1).length≤20:=by rw [List.length_map];exact ((h.2 c h1).2 a h2).1.1
 exact h3
theorem tplP_len {n:Nat} {L:List P_0} (h:SssG n L) (g:Int):(tplP (joinV L) g).length≤n*400:=by
 unfold tplP
 rw [List.length_map]
 refine Nat.le_trans (template_len (joinV_txs h) g) ?_
 have:=joinV_len h
 omega
theorem block_len {n:Nat} {L:List P_0} (h:SssG n L) (g:Int):List.length (blockP L g).2.2.1≤n*400:=tplP_len h g
theorem template_eq {n:Nat} {L:List P_0} (g:Int) (h:SssG n L) (hn:n≤1000) (hg:inI g=true):F_t (joinD L,g,())=some (tplP (joinV L) g,()):=by
 have e:F_t (joinD L,g,())=bif shard.okTp (joinD L) g then some (tplP (List.map pAcc (joinD L)) g,()) else none:=by unfold F_t;rfl
 have e2:shard.okTp (joinD L) g=true:=by
  show (decide (List.length (joinD L)≤1000000)&&(List.all (joinD L) (fun a=>shard.okA a)&&(inI g&&decide ((shard.templateP (List.map pAcc (joinD L)) g).length≤1000000))))=true
  have h1:decide (List.length (joinD L)≤1000000)=true:=by
   have:=joinV_len h
   rw [← joinD_back,List.length_map] at this
   exact decide_eq_true (by omega)
  have h2:List.all (joinD L) (fun a=>shard.okA a)=true:=List.all_eq_true.2 fun a ha=>by
   obtain ⟨c,h1,h2⟩:=allP_mem.1 (joinD_mem ha)
   exact okA_of ((h.2 c h1).2 a h2).1
  have h3:decide ((shard.templateP (List.map pAcc (joinD L)) g).length≤1000000)=true:=by
   rw [joinD_back]
   have h1:=template_len (joinV_txs h) g
   have h2:=joinV_len h
   exact decide_eq_true (by omega)
  rw [h1,h2,h3,hg];rfl
 rw [e,e2,joinD_back];rfl
theorem block_eq {n:Nat} (v:P_1) (L:List P_0) (h:SssG n L) (hn:n≤1000) (hg:inI v.1=true):F_j (v,L,())=some (blockP L v.1,()):=by
 refine (R_C (v,L,())).trans ?_
 refine (xb_e (join_eq L h hn)).trans ?_
 exact xb_e (template_eq v.1 h hn hg)
end Go.Proofs.YtdbjakibneeeiaaGreatDoor.Ex
namespace Go.Proofs.YtdbjakibneeeiaaGreatDoor.Ex
open Go.RowKit Sx
def tkOn (v:P_1) (n:Int):P_1:=bif v.2.2.1+1==n then (v.1,v.2.1+1,0,v.2.2.2) else (v.1,v.2.1,v.2.2.1+1,v.2.2.2)
def tkFail (v:P_1):P_1:=bif decide (IntKind.wrap IntKind.i64 (v.2.2.2.1+(1:Int))≥(2:Int)) then (v.1,3,0,IntKind.wrap IntKind.i64 (v.2.2.2.1+(1:Int)),[],[],v.2.2.2.2.2.2) else (v.1,0,0,IntKind.wrap IntKind.i64 (v.2.2.2.1+(1:Int)),[],[],v.2.2.2.2.2.2)
def setVs (v:P_1) (l:List Int):P_1:=(v.1,v.2.1,v.2.2.1,v.2.2.2.1,l,v.2.2.2.2.2)
def setCp (v:P_1) (l:List P_0):P_1:=(v.1,v.2.1,v.2.2.1,v.2.2.2.1,v.2.2.2.2.1,l,v.2.2.2.2.2.2)
abbrev noSh:P_0:=([],0,())
def shAt (s:P_2) (i:Int):P_0:=List.getD s.2.2.2.1 i.toNat noSh
def tkSame (v:P_1) (s:P_2):Bool:=lkFree s.2.1 v.2.2.1&&(decide (v.2.2.1<(List.length v.2.2.2.2.1:Int))&&(List.getD v.2.2.2.2.1 v.2.2.1.toNat (0:Int)==(shAt s v.2.2.1).2.1))
def tkDone (u:P_1):P_1:=bif u.2.1 != 2 then (u.1,6,u.2.2.1,u.2.2.2.1,u.2.2.2.2.1,u.2.2.2.2.2.1,blockP u.2.2.2.2.2.1 u.1,()) else u
def tkCmp (v:P_1) (s:P_2):P_1:=bif tkSame v s then tkDone (tkOn v s.1.1) else tkFail v
def stepP (v:P_1) (w:Int) (s:P_2):P_1×P_2×Int×Unit:=
 bif v.2.1==0 then (bif lkFree s.2.1 v.2.2.1 then tkOn (setVs v ((v.2.2.2.2.1:List Int)++[(shAt s v.2.2.1).2.1])) s.1.1 else tkFail v,s,0,())
 else bif v.2.1==1 then (tkOn (setCp v ((v.2.2.2.2.2.1:List P_0)++[shAt s v.2.2.1])) s.1.1,s,0,())
 else bif v.2.1==2 then (tkCmp v s,s,bif v.2.2.1==0 then 1 else 0,())
 else bif v.2.1==3 then (tkOn v s.1.1,(s.1,List.set s.2.1 v.2.2.1.toNat w,s.2.2),0,())
 else bif v.2.1==4 then ((v.1,5,0,v.2.2.2.1,v.2.2.2.2.1,v.2.2.2.2.2.1,blockP s.2.2.2.1 v.1,()),s,2,())
 else (tkOn v s.1.1,(s.1,List.set s.2.1 v.2.2.1.toNat (0:Int),s.2.2),0,())
def TkG (n:Nat) (v:P_1):Prop:=List.length v.2.2.2.2.1≤n∧SssG n v.2.2.2.2.2.1∧List.length v.2.2.2.2.2.2.1.2.2.1≤1000000∧inI v.1=true
def SgG (s:P_2):Prop:=List.length s.2.1≤10∧SssG 10 s.2.2.2.1
theorem TkG.cl {n:Nat} {v:P_1} (h:TkG n v) (hn:n≤1000):TkCl v:=⟨Nat.le_trans h.1 (by omega),h.2.1.cl (by omega),h.2.2.1⟩
theorem SgG.cl {s:P_2} (h:SgG s):SgCl s:=⟨Nat.le_trans h.1 (by decide),h.2.cl (by decide)⟩
theorem TkG.mono {n m:Nat} {v:P_1} (h:TkG n v) (hn:n≤m):TkG m v:=⟨Nat.le_trans h.1 hn,h.2.1.mono hn,h.2.2⟩
theorem on_eq (v:P_1) (s:P_2) (h1:inI (v.2.2.1+(1:Int))=true) (h2:inI (v.2.1+(1:Int))=true):F_8 (v,s,())=some (tkOn v s.1.1,()):=by
 refine (R_x (v,s,())).trans ?_
 refine (gd_e h1).trans ?_
 unfold tkOn
 cases h:(v.2.2.1+1==s.1.1) with
 | false=>exact xbr_f rfl
 | true=>exact (xbr_t rfl).trans (gd_e h2)
theorem fail_eq (v:P_1):F_i (v,())=some (tkFail v,()):=by
 refine (R_y (v,())).trans ?_
 unfold tkFail
 cases h:decide (IntKind.wrap IntKind.i64 (v.2.2.2.1+(1:Int))≥(2:Int)) with
 | false=>exact xbr_f rfl
 | true=>exact xbr_t rfl
theorem TkG.on {n:Nat} {v:P_1} (h:TkG n v) (k:Int):TkG n (tkOn v k):=by
 unfold tkOn
 cases (v.2.2.1+1==k) <;> exact h
theorem TkG.fail {n:Nat} {v:P_1} (h:TkG n v):TkG n (tkFail v):=by
 unfold tkFail
 cases decide (IntKind.wrap IntKind.i64 (v.2.2.2.1+(1:Int))≥(2:Int)) <;> exact ⟨Nat.zero_le _,⟨Nat.zero_le _,fun c hc=>by cases hc⟩,h.2.2.1,h.2.2.2⟩
theorem shG_at {s:P_2} (h:SgG s) {i:Int} (h1:0≤i) (h2:i<(List.length s.2.2.2.1:Int)):ShG (shAt s i):=by
 have h3:i.toNat<List.length s.2.2.2.1:=by omega
 unfold shAt
 rw [getD_lt h3]
 exact h.2.2 _ (List.getElem_mem h3)
theorem note_eq {n:Nat} (v:P_1) (w:Int) (s:P_2) (hn:n≤1000) (hv:TkG n v) (hs:SgG s) (hl:List.length s.2.2.2.1=List.length s.2.1) (hp:v.2.1=0) (h1:0≤v.2.2.1) (h2:v.2.2.1<(List.length s.2.1:Int)) :
  F_O (v,w,s,())=some (bif lkFree s.2.1 v.2.2.1 then tkOn (setVs v ((v.2.2.2.2.1:List Int)++[(shAt s v.2.2.1).2.1])) s.1.1 else tkFail v,s,(0:Int),()):=by
 refine (R_z (v,w,s,())).trans ?_
 refine (xb_e (lk_Free _ _)).trans ?_
 cases hf:lkFree s.2.1 v.2.2.1 with
 | false=>
  refine (xbr_t (by rfl)).trans ?_
  exact xb_e (fail_eq v)
 | true=>
  refine (xbr_f (by rfl)).trans ?_
  have hb:∀x:Int,(Nat.ble (List.length v.2.2.2.2.1+List.length [x]) 9223372036854775807&&Nat.ble ((List.length v.2.2.2.2.1+List.length [x])*8) 140737488355328)=true:=fun x=>by
   have:=hv.1
   rw [Bool.and_eq_true,Nat.ble_eq,Nat.ble_eq,List.length_singleton];omega
  have hi:v.2.2.1<(List.length s.2.2.2.1:Int):=by rw [hl];exact h2
  refine (xb_e ((gd_e (inR_iff.2 ⟨h1,hi⟩)).trans ((gd_e (decide_eq_true (by show v.2.2.1.toNat<List.length s.2.2.2.1;omega))).trans (both_e ((xb_e (clF_eq (Nat.le_trans hv.1 (by omega)))).trans (gd_e (hb _))) ((xb_e (clF_eq (Nat.le_trans hv.1 (by omega)))).trans (gd_e (hb _))) (same_t rfl rfl rfl _))))).trans ?_
  have hs2:=hs.1
  refine (xb_e (on_eq (setVs v ((v.2.2.2.2.1:List Int)++[(shAt s v.2.2.1).2.1])) s (inI_of (by show _≤v.2.2.1+1;omega) (by show v.2.2.1+1≤_;omega)) (inI_of (by show _≤v.2.1+1;omega) (by show v.2.1+1≤_;omega)))).trans ?_
  rfl
theorem copy_eq {n:Nat} (v:P_1) (w:Int) (s:P_2) (hn:n≤1000) (hv:TkG n v) (hs:SgG s) (hl:List.length s.2.2.2.1=List.length s.2.1) (hp:v.2.1=1) (h1:0≤v.2.2.1) (h2:v.2.2.1<(List.length s.2.1:Int)) :
  F_P (v,w,s,())=some (tkOn (setCp v ((v.2.2.2.2.2.1:List P_0)++[shAt s v.2.2.1])) s.1.1,s,(0:Int),()):=by
 refine (R_A (v,w,s,())).trans ?_
 have hb:∀x:P_0,(Nat.ble (List.length v.2.2.2.2.2.1+List.length [x]) 9223372036854775807&&Nat.ble ((List.length v.2.2.2.2.2.1+List.length [x])*32) 140737488355328)=true:=fun x=>by
  have:=hv.2.1.1
  rw [Bool.and_eq_true,Nat.ble_eq,Nat.ble_eq,List.length_singleton];omega
 have hi:v.2.2.1<(List.length s.2.2.2.1:Int):=by rw [hl];exact h2
 refine (xb_e ((gd_e (inR_iff.2 ⟨h1,hi⟩)).trans ((gd_e (decide_eq_true (by show v.2.2.1.toNat<List.length s.2.2.2.1;omega))).trans (both_e ((xb_e (clF_eq (Nat.le_trans hv.2.1.1 (by omega)))).trans (gd_e (hb _))) ((xb_e (clF_eq (Nat.le_trans hv.2.1.1 (by omega)))).trans (gd_e (hb _))) (same_t rfl rfl rfl _))))).trans ?_
 have hs2:=hs.1
 refine (xb_e (on_eq (setCp v ((v.2.2.2.2.2.1:List P_0)++[shAt s v.2.2.1])) s (inI_of (by show _≤v.2.2.1+1;omega) (by show v.2.2.1+1≤_;omega)) (inI_of (by show _≤v.2.1+1;omega) (by show v.2.1+1≤_;omega)))).trans ?_
 rfl
theorem unch_eq (v:P_1) (s:P_2) (hl:List.length s.2.2.2.1=List.length s.2.1) (h1:0≤v.2.2.1) (h2:v.2.2.1<(List.length s.2.1:Int)):F_q (v,s,())=some (tkSame v s,()):=by
 refine (R_B (v,s,())).trans ?_
 refine (xb_e (lk_Free _ _)).trans ?_
 unfold tkSame
 cases lkFree s.2.1 v.2.2.1 with
 | false=>rfl
 | true=>
  refine (xbr_t (by rfl)).trans ?_
  cases h3:decide (v.2.2.1<(List.length v.2.2.2.2.1:Int)) with
  | false=>exact xbr_f rfl
  | true=>
   have h4:=of_decide_eq_true h3
   have hi:v.2.2.1<(List.length s.2.2.2.1:Int):=by rw [hl];exact h2
   refine (xbr_t rfl).trans ?_
   refine (gd_e (inR_iff.2 ⟨h1,h4⟩)).trans ((gd_e (decide_eq_true (by show v.2.2.1.toNat<List.length v.2.2.2.2.1;omega))).trans ?_)
   exact (gd_e (inR_iff.2 ⟨h1,hi⟩)).trans (gd_e (decide_eq_true (by show v.2.2.1.toNat<List.length s.2.2.2.1;omega)))
theorem cmp_eq {n:Nat} (v:P_1) (w:Int) (s:P_2) (hn:n≤1000) (hv:TkG n v) (hs:SgG s) (hl:List.length s.2.2.2.1=List.length s.2.1) (hp:v.2.1=2) (h1:0≤v.2.2.1) (h2:v.2.2.1<(List.length s.2.1:Int)) :
  F_Q (v,w,s,())=some (tkCmp v s,s,(bif v.2.2.1==0 then (1:Int) else (0:Int)),()):=by
 have hs2:=hs.1
 have key:∀told:Int,xb (F_q (v,s,())) (fun y0:Bool×Unit=>xbr (!y0.1) (xb (F_i (v,())) fun y1:P_1×Unit=>some (y1.1,s,told,())) (xb (F_8 (v,s,())) fun y2:P_1×Unit=>xbr (y2.1.2.1 != (2:Int)) (xb (F_j (y2.1,y2.1.2.2.2.2.2.1,())) fun y3:P_6×Unit=>some ((y2.1.1,6,y2.1.2.2.1,y2.1.2.2.2.1,y2.1.2.2.2.2.1,y2.1.2.2.2.2.2.1,y3),s,told,())) (some (y2.1,s,told,()))))=some (tkCmp v s,s,told,()):=by
  intro told
  refine (xb_e (unch_eq v s hl h1 h2)).trans ?_
  unfold tkCmp
  cases tkSame v s with
  | false=>exact (xbr_t rfl).trans (xb_e (fail_eq v))
  | true=>
   refine (xbr_f rfl).trans ?_
   refine (xb_e (on_eq v s (inI_of (by show _≤v.2.2.1+1;omega) (by show v.2.2.1+1≤_;omega)) (inI_of (by show _≤v.2.1+1;omega) (by show v.2.1+1≤_;omega)))).trans ?_
   show xbr ((tkOn v s.1.1).2.1 != (2:Int)) _ _=some (tkDone (tkOn v s.1.1),s,told,())
   have hg:=hv.on s.1.1
   generalize tkOn v s.1.1=u at hg ⊢
   unfold tkDone
   cases h:(u.2.1 != (2:Int)) with
   | false=>rfl
   | true=>
    refine (xbr_t rfl).trans ?_
    exact xb_e (block_eq u _ hg.2.1 hn hg.2.2.2)
 refine (R_D (v,w,s,())).trans ?_
 cases h:(v.2.2.1==(0:Int)) with
 | false=>exact (xbr_f rfl).trans (key 0)
 | true=>exact (xbr_t rfl).trans (key 1)
theorem way_0 (y:DenL TkA):snapWay 0 y=F_O y:=by unfold snapWay;rw [beq_self_eq_true,cond_true]
theorem way_1 (y:DenL TkA):snapWay 1 y=F_P y:=by unfold snapWay;rw [beq_false_of_ne (show (1:Int)≠0 by decide),cond_false,beq_self_eq_true,cond_true]
theorem way_2 (y:DenL TkA):snapWay 2 y=F_Q y:=by unfold snapWay;rw [beq_false_of_ne (show (2:Int)≠0 by decide),cond_false,beq_false_of_ne (show (2:Int)≠1 by decide),cond_false,beq_self_eq_true,cond_true]
theorem way_3 (y:DenL TkA):snapWay 3 y=F_0a y:=by unfold snapWay;rw [beq_false_of_ne (show (3:Int)≠0 by decide),cond_false,beq_false_of_ne (show (3:Int)≠1 by decide),cond_false,beq_false_of_ne (show (3:Int)≠2 by decide),cond_false,beq_self_eq_true,cond_true]
theorem way_4 (y:DenL TkA):snapWay 4 y=F_0b y:=by unfold snapWay;rw [beq_false_of_ne (show (4:Int)≠0 by decide),cond_false,beq_false_of_ne (show (4:Int)≠1 by decide),cond_false,beq_false_of_ne (show (4:Int)≠2 by decide),cond_false,beq_false_of_ne (show (4:Int)≠3 by decide),cond_false,beq_self_eq_true,cond_true]
theorem way_5 (y:DenL TkA):snapWay 5 y=F_0c y:=by unfold snapWay;rw [beq_false_of_ne (show (5:Int)≠0 by decide),cond_false,beq_false_of_ne (show (5:Int)≠1 by decide),cond_false,beq_false_of_ne (show (5:Int)≠2 by decide),cond_false,beq_false_of_ne (show (5:Int)≠3 by decide),cond_false,beq_false_of_ne (show (5:Int)≠4 by decide),cond_false,beq_self_eq_true,cond_true]
theorem step_eq {n:Nat} (v:P_1) (w:Int) (s:P_2) (hn:n<1000) (hv:TkG n v) (hs:SgG s) (ha:F_9 (v,w,s,())=some (true,())) (hm:MayOk s) (hw:1≤w) (hp:AblePh v w s) :
  F_2 (v,w,s,())=some (stepP v w s)∧TkG (n+1) (stepP v w s).1∧SgG (stepP v w s).2.1∧List.length (stepP v w s).2.1.2.1=List.length s.2.1∧(stepP v w s).2.1.1=s.1∧(stepP v w s).2.1.2.2=s.2.2:=by
 have hl:=hm.2.1
 have hs2:=hs.1
 have hend:∀(v':P_1) (s':P_2) (k:Int),TkG (n+1) v'→SgG s'→snapEnd v' s' k=some (v',s',k,()):=fun v' s' k h1 h2=>by
  unfold snapEnd
  refine (xb_e (copied_eq v' (h1.cl (by omega)))).trans ?_
  exact xb_e (copiedSight_eq s' h2.cl)
 have hstep:∀{r:P_1×P_2×Int×Unit},snapWay v.2.1 (v,w,s,())=some r→TkG (n+1) r.1→SgG r.2.1→F_2 (v,w,s,())=some r:=fun {r} h1 h2 h3=>by
  unfold F_2
  refine (xb_e ha).trans ((xbr_t rfl).trans ((xb_e h1).trans ?_))
  exact hend _ _ _ h2 h3
 have hset:∀(x:Int),SgG (s.1,List.set s.2.1 v.2.2.1.toNat x,s.2.2):=fun x=>⟨by show List.length (List.set s.2.1 v.2.2.1.toNat x)≤10;rw [List.length_set];exact hs.1,hs.2⟩
 have hin:v.2.1=0∨v.2.1=1∨v.2.1=2∨v.2.1=3∨v.2.1=5→0≤v.2.2.1∧v.2.2.1<(List.length s.2.1:Int):=by
  intro hc
  rcases hp with ⟨h,h1⟩ | ⟨h,h1⟩ | ⟨h,h1⟩ | ⟨h,h1⟩ | ⟨h,h1⟩ | ⟨h,h1,_⟩
  ·exact h1
  ·exact h1
  ·exact h1
  ·exact lkHas_iff.1 (Bool.and_eq_true_iff.1 h1).1
  ·exfalso;omega
  ·exact h1
 have hon:v.2.1=0∨v.2.1=1∨v.2.1=2∨v.2.1=3∨v.2.1=5→inI (v.2.2.1+(1:Int))=true∧inI (v.2.1+(1:Int))=true:=fun hc=>by
  have:=hin hc
  exact ⟨inI_of (by omega) (by omega),inI_of (by omega) (by omega)⟩
 rcases hp with ⟨h,h1,h2⟩ | ⟨h,h1,h2⟩ | ⟨h,h1,h2⟩ | ⟨h,h1⟩ | ⟨h,h1⟩ | ⟨h,⟨h1,h2⟩,h3⟩
 ·have e:stepP v w s=(bif lkFree s.2.1 v.2.2.1 then tkOn (setVs v ((v.2.2.2.2.1:List Int)++[(shAt s v.2.2.1).2.1])) s.1.1 else tkFail v,s,0,()):=by unfold stepP;rw [h];rfl
  have hg:TkG (n+1) (stepP v w s).1:=by
   rw [e]
   show TkG (n+1) (bif lkFree s.2.1 v.2.2.1 then _ else _)
   cases lkFree s.2.1 v.2.2.1 with
   | false=>exact hv.fail.mono (Nat.le_succ _)
   | true=>
    refine TkG.on (v:=setVs v ((v.2.2.2.2.1:List Int)++[(shAt s v.2.2.1).2.1])) ⟨?_,hv.2.1.mono (Nat.le_succ _),hv.2.2⟩ s.1.1
    show List.length ((v.2.2.2.2.1:List Int)++[_])≤n+1
    rw [List.length_append]
    exact Nat.succ_le_succ hv.1
  refine ⟨hstep ?_ hg (by rw [e];exact hs),hg,by rw [e];exact hs,by rw [e],by rw [e],by rw [e]⟩
  rw [e,h]
  refine (way_0 _).trans ?_
  exact note_eq v w s (Nat.le_of_lt hn) hv hs hl h h1 h2
 ·have e:stepP v w s=(tkOn (setCp v ((v.2.2.2.2.2.1:List P_0)++[shAt s v.2.2.1])) s.1.1,s,0,()):=by unfold stepP;rw [h];rfl
  have hg:TkG (n+1) (stepP v w s).1:=by
   rw [e]
   refine TkG.on (v:=setCp v ((v.2.2.2.2.2.1:List P_0)++[shAt s v.2.2.1])) ⟨Nat.le_trans hv.1 (Nat.le_succ _),⟨?_,fun c hc=>?_⟩,hv.2.2⟩ s.1.1
   ·show List.length ((v.2.2.2.2.2.1:List P_0)++[_])≤n+1
    rw [List.length_append]
    exact Nat.succ_le_succ hv.2.1.1
   ·have hc:c∈(v.2.2.2.2.2.1:List P_0)++[shAt s v.2.2.1]:=hc
    rw [List.mem_append,List.mem_singleton] at hc
    rcases hc with hc | rfl
    ·exact hv.2.1.2 c hc
    ·exact shG_at hs h1 (by rw [hl];exact h2)
  refine ⟨hstep ?_ hg (by rw [e];exact hs),hg,by rw [e];exact hs,by rw [e],by rw [e],by rw [e]⟩
  rw [e,h]
  refine (way_1 _).trans ?_
  exact copy_eq v w s (Nat.le_of_lt hn) hv hs hl h h1 h2
 ·have e:stepP v w s=(tkCmp v s,s,bif v.2.2.1==0 then 1 else 0,()):=by unfold stepP;rw [h];rfl
  have hg:TkG (n+1) (stepP v w s).1:=by
   rw [e]
   show TkG (n+1) (tkCmp v s)
   unfold tkCmp
   cases tkSame v s with
   | false=>exact hv.fail.mono (Nat.le_succ _)
   | true=>
    have hu:=hv.on s.1.1
    show TkG (n+1) (tkDone (tkOn v s.1.1))
    generalize tkOn v s.1.1=u at hu
    unfold tkDone
    cases (u.2.1 != (2:Int)) with
    | false=>exact hu.mono (Nat.le_succ _)
    | true=>exact ⟨Nat.le_trans hu.1 (Nat.le_succ _),hu.2.1.mono (Nat.le_succ _),Nat.le_trans (block_len hu.2.1 _) (by omega),hu.2.2.2⟩
  refine ⟨hstep ?_ hg (by rw [e];exact hs),hg,by rw [e];exact hs,by rw [e],by rw [e],by rw [e]⟩
  rw [e,h]
  refine (way_2 _).trans ?_
  exact cmp_eq v w s (Nat.le_of_lt hn) hv hs hl h h1 h2
 ·have e:stepP v w s=(tkOn v s.1.1,(s.1,List.set s.2.1 v.2.2.1.toNat w,s.2.2),0,()):=by unfold stepP;rw [h];rfl
  have hg:TkG (n+1) (stepP v w s).1:=by rw [e];exact (hv.on s.1.1).mono (Nat.le_succ _)
  refine ⟨hstep ?_ hg (by rw [e];exact hset w),hg,by rw [e];exact hset w,by rw [e];exact List.length_set,by rw [e],by rw [e]⟩
  rw [e,h]
  refine (way_3 _).trans ?_
  refine (R_E (v,w,s,())).trans ?_
  refine (xb_e (lk_Take _ _ _ h1 hw (Nat.le_trans hs.1 (by decide)))).trans ?_
  obtain ⟨i1,i2⟩:=hon (by omega)
  exact xb_e (on_eq v (s.1,List.set s.2.1 v.2.2.1.toNat w,s.2.2) i1 i2)
 ·have e:stepP v w s=((v.1,5,0,v.2.2.2.1,v.2.2.2.2.1,v.2.2.2.2.2.1,blockP s.2.2.2.1 v.1,()),s,2,()):=by unfold stepP;rw [h];rfl
  have hg:TkG (n+1) (stepP v w s).1:=by
   rw [e]
   exact ⟨Nat.le_trans hv.1 (Nat.le_succ _),hv.2.1.mono (Nat.le_succ _),Nat.le_trans (block_len hs.2 _) (by decide),hv.2.2.2⟩
  refine ⟨hstep ?_ hg (by rw [e];exact hs),hg,by rw [e];exact hs,by rw [e],by rw [e],by rw [e]⟩
  rw [e,h]
  refine (way_4 _).trans ?_
  refine (R_F (v,w,s,())).trans ?_
  exact xb_e (block_eq v _ hs.2 (by decide) hv.2.2.2)
 ·have e:stepP v w s=(tkOn v s.1.1,(s.1,List.set s.2.1 v.2.2.1.toNat (0:Int),s.2.2),0,()):=by unfold stepP;rw [h];rfl
  have hg:TkG (n+1) (stepP v w s).1:=by rw [e];exact (hv.on s.1.1).mono (Nat.le_succ _)
  refine ⟨hstep ?_ hg (by rw [e];exact hset 0),hg,by rw [e];exact hset 0,by rw [e];exact List.length_set,by rw [e],by rw [e]⟩
  rw [e,h]
  refine (way_5 _).trans ?_
  refine (R_G (v,w,s,())).trans ?_
  refine (xb_e (lk_Give _ _ _ h1 h2 h3 (Nat.le_trans hs.1 (by decide)))).trans ?_
  obtain ⟨i1,i2⟩:=hon (by omega)
  exact xb_e (on_eq v (s.1,List.set s.2.1 v.2.2.1.toNat (0:Int),s.2.2) i1 i2)
end Go.Proofs.YtdbjakibneeeiaaGreatDoor.Ex
