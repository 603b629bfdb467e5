/- live of hopperlaw18, call by call. -/
import Derived.Test.YtdbjakibneeeiaaGreatDoorKExRl
set_option linter.all false
set_option maxHeartbeats 4000000
set_option maxRecDepth 100000
namespace Go.Proofs.YtdbjakibneeeiaaGreatDoor.Ex
open Go.RowKit Sx
def q0:Y2:=((1:Int),((5:Int),((5:Int),((2:Int),((0:Int),((1:Int),((1:Int),((1:Int),()))))))))
def q1:Y5:=(q0,(((0:Int)::[]),(((0:Int),((5:Int),())),((([],((0:Int),()))::[]),()))))
def q2:Y0:=((1:Int),((0:Int),((5:Int),((9:Int),((10:Int),((⟨#[]⟩:ByteArray),()))))))
def q3:Y8:=((0:Int),((0:Int),((0:Int),((0:Int),((⟨#[1,1,1,1,0,1,5,1,9,1,10,0,0]⟩:ByteArray),())))))
def q4:Ep:=(q3,((0:Int),((0:Int),((false,((0:Int),(((0:Int),((0:Int),([],()))),([],(((0:Int),(((0:Int),((0:Int),((0:Int),((0:Int),((0:Int),((⟨#[]⟩:ByteArray),())))))),([],((0:Int),())))),()))))),(((0:Int),(((0:Int),((0:Int),((0:Int),((0:Int),((0:Int),((⟨#[]⟩:ByteArray),())))))),([],((0:Int),())))),(false,()))))))
def q5:Y7:=((100:Int),((0:Int),((0:Int),((0:Int),([],([],(((0:Int),(((0:Int),((0:Int),((0:Int),((0:Int),((0:Int),((⟨#[]⟩:ByteArray),())))))),([],((0:Int),())))),())))))))
def q6:Y7:=((100:Int),((1:Int),((0:Int),((0:Int),(((0:Int)::[]),([],(((0:Int),(((0:Int),((0:Int),((0:Int),((0:Int),((0:Int),((⟨#[]⟩:ByteArray),())))))),([],((0:Int),())))),())))))))
def q7:Ep:=(q3,((1:Int),((1:Int),((false,((0:Int),(((0:Int),((0:Int),([],()))),([],(((0:Int),(((0:Int),((0:Int),((0:Int),((0:Int),((0:Int),((⟨#[]⟩:ByteArray),())))))),([],((0:Int),())))),()))))),(((0:Int),(((0:Int),((0:Int),((0:Int),((0:Int),((0:Int),((⟨#[]⟩:ByteArray),())))))),([],((0:Int),())))),(false,()))))))
def q8:Ep:=(q3,((2:Int),((1:Int),((false,((0:Int),(((0:Int),((0:Int),([],()))),([],(((0:Int),(((0:Int),((0:Int),((0:Int),((0:Int),((0:Int),((⟨#[]⟩:ByteArray),())))))),([],((0:Int),())))),()))))),(((0:Int),(((0:Int),((0:Int),((0:Int),((0:Int),((0:Int),((⟨#[]⟩:ByteArray),())))))),([],((0:Int),())))),(false,()))))))
def q9:Y5:=(q0,(((1:Int)::[]),(((0:Int),((5:Int),())),((([],((0:Int),()))::[]),()))))
def Qh:Ep:=(q3,((3:Int),((1:Int),((true,((1:Int),(((1:Int),((0:Int),((q2::[]),()))),((((1:Int),(q2,((0:Int),())))::[]),(((0:Int),(((0:Int),((0:Int),((0:Int),((0:Int),((0:Int),((⟨#[]⟩:ByteArray),())))))),([],((0:Int),())))),()))))),(((0:Int),(((0:Int),((0:Int),((0:Int),((0:Int),((0:Int),((⟨#[]⟩:ByteArray),())))))),([],((0:Int),())))),(false,()))))))
def Qy:Ep:=(q3,((4:Int),((1:Int),((true,((1:Int),(((1:Int),((0:Int),((q2::[]),()))),((((1:Int),(q2,((0:Int),())))::[]),(((0:Int),(((0:Int),((0:Int),((0:Int),((0:Int),((0:Int),((⟨#[]⟩:ByteArray),())))))),([],((0:Int),())))),()))))),(((0:Int),(((0:Int),((0:Int),((0:Int),((0:Int),((0:Int),((⟨#[]⟩:ByteArray),())))))),([],((0:Int),())))),(true,()))))))
def Qo:Y5:=(q0,(((1:Int)::[]),(((1:Int),((5:Int),())),((([],((0:Int),()))::[]),()))))
def Qg:Ep:=(q3,((5:Int),((1:Int),((true,((1:Int),(((1:Int),((0:Int),((q2::[]),()))),((((1:Int),(q2,((0:Int),())))::[]),(((0:Int),(((0:Int),((0:Int),((0:Int),((0:Int),((0:Int),((⟨#[]⟩:ByteArray),())))))),([],((0:Int),())))),()))))),(((0:Int),(((0:Int),((0:Int),((0:Int),((0:Int),((0:Int),((⟨#[]⟩:ByteArray),())))))),([],((0:Int),())))),(true,()))))))
def Qr:Y5:=(q0,(((1:Int)::[]),(((1:Int),((5:Int),())),((((((1:Int),((0:Int),((q2::[]),())))::[]),((1:Int),()))::[]),()))))
def Wz:Ep:=(q3,((6:Int),((1:Int),((true,((1:Int),(((1:Int),((0:Int),((q2::[]),()))),((((1:Int),(q2,((0:Int),())))::[]),(((0:Int),(((0:Int),((0:Int),((0:Int),((0:Int),((0:Int),((⟨#[]⟩:ByteArray),())))))),([],((0:Int),())))),()))))),(((0:Int),(((0:Int),((0:Int),((0:Int),((0:Int),((0:Int),((⟨#[]⟩:ByteArray),())))))),([],((0:Int),())))),(true,()))))))
def xX:Y5:=(q0,(((0:Int)::[]),(((1:Int),((5:Int),())),((((((1:Int),((0:Int),((q2::[]),())))::[]),((1:Int),()))::[]),()))))
def QE:Y7:=((100:Int),((2:Int),((0:Int),((0:Int),(((0:Int)::[]),((((((1:Int),((0:Int),((q2::[]),())))::[]),((1:Int),()))::[]),(((0:Int),(((0:Int),((0:Int),((0:Int),((0:Int),((0:Int),((⟨#[]⟩:ByteArray),())))))),([],((0:Int),())))),())))))))
def Qm:Y7:=((100:Int),((0:Int),((0:Int),((1:Int),([],([],(((0:Int),(((0:Int),((0:Int),((0:Int),((0:Int),((0:Int),((⟨#[]⟩:ByteArray),())))))),([],((0:Int),())))),())))))))
def Wt:Y7:=((100:Int),((6:Int),((0:Int),((1:Int),(((1:Int)::[]),((((((1:Int),((0:Int),((q2::[]),())))::[]),((1:Int),()))::[]),(((0:Int),(((0:Int),((0:Int),((0:Int),((0:Int),((0:Int),((⟨#[]⟩:ByteArray),())))))),((q2::[]),((0:Int),())))),())))))))
def QF:Y5:=(q0,(((4:Int)::[]),(((1:Int),((5:Int),())),((((((1:Int),((0:Int),((q2::[]),())))::[]),((1:Int),()))::[]),()))))
def Qn:Y7:=((100:Int),((3:Int),((0:Int),((2:Int),([],([],(((0:Int),(((0:Int),((0:Int),((0:Int),((0:Int),((0:Int),((⟨#[]⟩:ByteArray),())))))),([],((0:Int),())))),())))))))
def QD:Y7:=((100:Int),((4:Int),((0:Int),((2:Int),([],([],(((0:Int),(((0:Int),((0:Int),((0:Int),((0:Int),((0:Int),((⟨#[]⟩:ByteArray),())))))),([],((0:Int),())))),())))))))
def QA:Y5:=(q0,(((8:Int)::[]),(((1:Int),((5:Int),())),((((((1:Int),((0:Int),((q2::[]),())))::[]),((1:Int),()))::[]),()))))
def VA:Y7:=((100:Int),((6:Int),((0:Int),((2:Int),([],([],(((0:Int),(((0:Int),((0:Int),((0:Int),((0:Int),((0:Int),((⟨#[]⟩:ByteArray),())))))),((q2::[]),((0:Int),())))),())))))))
def Bd:Ji (q0,())=some (q1,(0:Int),()):=by kernel_rfl
def Ed:IZ (q2,())=some ((⟨#[1,1,1,1,0,1,5,1,9,1,10,0,0]⟩:ByteArray),true,()):=by kernel_rfl
def F8:IJ (q3,())=some (q4,()):=by kernel_rfl
def xS:F_3 ((100:Int),())=some (q5,()):=by kernel_rfl
def Lv:F_2 (q5,(8:Int),q1,())=some (q6,q1,(0:Int),()):=by kernel_rfl
def JO:F_5 (q4,(1:Int),q1,())=some (q7,q1,[],false,()):=by kernel_rfl
def Km:F_5 (q7,(1:Int),q1,())=some (q8,q9,[],false,()):=by kernel_rfl
def KA:F_5 (q8,(1:Int),q9,())=some (Qh,q9,[],false,()):=by kernel_rfl
def K5:F_5 (Qh,(1:Int),q9,())=some (Qy,Qo,(((1:Int),(((1:Int),((0:Int),((5:Int),((9:Int),((10:Int),((⟨#[]⟩:ByteArray),())))))),((0:Int),())))::[]),true,()):=by kernel_rfl
def Jt:F_5 (Qy,(1:Int),Qo,())=some (Qg,Qr,[],false,()):=by kernel_rfl
def L8:F_5 (Qg,(1:Int),Qr,())=some (Wz,xX,[],false,()):=by kernel_rfl
def Kw:F_2 (q6,(8:Int),xX,())=some (QE,xX,(0:Int),()):=by kernel_rfl
def LZ:F_2 (QE,(8:Int),xX,())=some (Qm,xX,(1:Int),()):=by kernel_rfl
def LY:rK (Qm,(8:Int),xX,(3:Int),())=some (Wt,xX,()):=by kernel_rfl
def L2:rK (q5,(8:Int),QF,(99:Int),())=some (Qn,QF,()):=by kernel_rfl
def JB:rK (Qn,(8:Int),xX,(1:Int),())=some (QD,QA,()):=by kernel_rfl
def KG:rK (QD,(8:Int),QA,(99:Int),())=some (VA,xX,()):=by kernel_rfl
end Go.Proofs.YtdbjakibneeeiaaGreatDoor.Ex
namespace Go.Proofs.YtdbjakibneeeiaaGreatDoor.Ex
open Go.RowKit Sx
def dD {α R:Type} {o:Option α} {v:α} {k:α→Option R} {r:Option R} (h:o=some v) (h2:k v=r):xb o k=r:=by rw [h];exact h2
def mQ {R:Type} {c:Bool} {o r:Option R} (h:c=true) (h2:o=r):gd c o=r:=by rw [h];exact h2
def l9 {R:Type} {c:Bool} {a b r:Option R} (h:c=true) (h2:a=r):az c a b=r:=by rw [h];exact h2
def AK {R:Type} {c:Bool} {a b r:Option R} (h:c=false) (h2:b=r):az c a b=r:=by rw [h];exact h2
def xh {R:Type} [Same R] {x y:Option R} {a:R} (h:x=some a) (h2:y=some a) (h3:Same.eq a a=true):both x y=some a:=by
 rw [h,h2]
 show gd (Same.eq a a) (some a)=some a
 rw [h3];rfl
def jC {S R:Type} {step:S→Option (S ⊕ R)} {n:Nat} {s s':S} {r:Option R} (h:step s=some (.inl s')) (k:b6 step n s'=r):b6 step (n+1) s=r:=by rw [dO,h];exact k
def Dh {S R:Type} {step:S→Option (S ⊕ R)} {n:Nat} {s:S} {r:R} (h:step s=some (.inr r)):b6 step (n+1) s=some r:=by rw [dO,h]
def GG:bn=9999999999999999993+1+1+1+1+1+1+1:=by kernel_rfl
def Dm (fo:af [z2]→Option (af [z5,.int])) (fe:af [z0]→Option (af [.str,.bool])) (fn:af [z8]→Option (af [ji])) (fw:af [.int]→Option (af [z7])) (fs:af [z7,.int,z5]→Option (af [z7,z5,.int])) (ft:af [ji,.int,z5]→Option (af [ji,z5,(.row z9),.bool])) (fr:af [z7,.int,z5,.int]→Option (af [z7,z5]))
 (Bd:fo (q0,())=some (q1,(0:Int),()))
 (Ed:fe (q2,())=some ((⟨#[1,1,1,1,0,1,5,1,9,1,10,0,0]⟩:ByteArray),true,()))
 (F8:fn (q3,())=some (q4,()))
 (xS:fw ((100:Int),())=some (q5,()))
 (Lv:fs (q5,(8:Int),q1,())=some (q6,q1,(0:Int),()))
 (JO:ft (q4,(1:Int),q1,())=some (q7,q1,[],false,()))
 (Km:ft (q7,(1:Int),q1,())=some (q8,q9,[],false,()))
 (KA:ft (q8,(1:Int),q9,())=some (Qh,q9,[],false,()))
 (K5:ft (Qh,(1:Int),q9,())=some (Qy,Qo,(((1:Int),(((1:Int),((0:Int),((5:Int),((9:Int),((10:Int),((⟨#[]⟩:ByteArray),())))))),((0:Int),())))::[]),true,()))
 (Jt:ft (Qy,(1:Int),Qo,())=some (Qg,Qr,[],false,()))
 (L8:ft (Qg,(1:Int),Qr,())=some (Wz,xX,[],false,()))
 (Kw:fs (q6,(8:Int),xX,())=some (QE,xX,(0:Int),()))
 (LZ:fs (QE,(8:Int),xX,())=some (Qm,xX,(1:Int),()))
 (LY:fr (Qm,(8:Int),xX,(3:Int),())=some (Wt,xX,()))
 (L2:fr (q5,(8:Int),QF,(99:Int),())=some (Qn,QF,()))
 (JB:fr (Qn,(8:Int),xX,(1:Int),())=some (QD,QA,()))
 (KG:fr (QD,(8:Int),QA,(99:Int),())=some (VA,xX,())):C3 fo fe fn fw fs ft fr=some (true,()):=by
 unfold C3
 refine dD Bd ?_
 refine dD Ed ?_
 refine dD F8 ?_
 refine dD xS ?_
 refine dD Lv ?_
 refine dD (by
  rw [GG]
  refine jC (l9 (by kernel_rfl) (dD JO (mQ (by kernel_rfl) rfl))) ?_
  refine jC (l9 (by kernel_rfl) (dD Km (mQ (by kernel_rfl) rfl))) ?_
  refine jC (l9 (by kernel_rfl) (dD KA (mQ (by kernel_rfl) rfl))) ?_
  refine jC (l9 (by kernel_rfl) (dD K5 (mQ (by kernel_rfl) rfl))) ?_
  refine jC (l9 (by kernel_rfl) (dD Jt (mQ (by kernel_rfl) rfl))) ?_
  refine jC (l9 (by kernel_rfl) (dD L8 (mQ (by kernel_rfl) rfl))) ?_
  exact Dh (AK (by kernel_rfl) rfl)) ?_
 refine dD Kw ?_
 refine dD LZ ?_
 refine dD LY ?_
 refine l9 (by kernel_rfl) ?_
 refine AK (by kernel_rfl) ?_
 apply dD
 ·repeat' (first
   | refine dD xS ?_
   | refine dD L2 ?_
   | apply xh
   | (show Same.eq _ _=true;kernel_rfl)
   | exact rfl)
 repeat' (first
  | refine dD JB ?_
  | refine dD KG ?_
  | refine mQ (by kernel_rfl) ?_
  | refine l9 (by kernel_rfl) ?_
  | refine AK (by kernel_rfl) ?_
  | exact rfl)
def Kq:F_1 ()=some (true,()):=(SU ()).trans (Dm Ji IZ IJ F_3 F_2 F_5 rK Bd Ed F8 xS Lv JO Km KA K5 Jt L8 Kw LZ LY L2 JB KG)
end Go.Proofs.YtdbjakibneeeiaaGreatDoor.Ex
