/- live of hopperlaw18, call by call. -/
import Derived.Test.YtdbjakibneeeiaaGreatDoorKExRl
set_option linter.all false
set_option maxHeartbeats 4000000
set_option maxRecDepth 100000
namespace Go.Proofs.YtdbjakibneeeiaaGreatDoor.Ex
open Go.RowKit Sx
def q0:Y2:=((1:Int),((5:Int),((5:Int),((2:Int),((0:Int),((1:Int),((1:Int),((1:Int),()))))))))
def q1:Y5:=(q0,(((0:Int)::[]),(((0:Int),((5:Int),())),((([],((0:Int),()))::[]),()))))
def q2:Y0:=((1:Int),((0:Int),((5:Int),((9:Int),((10:Int),((⟨#[]⟩:ByteArray),()))))))
def q3:Y8:=((0:Int),((0:Int),((0:Int),((0:Int),((⟨#[1,1,1,1,0,1,5,1,9,1,10,0,0]⟩:ByteArray),())))))
def q4:Y11:=(q3,((0:Int),((0:Int),((false,((0:Int),(((0:Int),((0:Int),([],()))),([],(((0:Int),(((0:Int),((0:Int),((0:Int),((0:Int),((0:Int),((⟨#[]⟩:ByteArray),())))))),([],((0:Int),())))),()))))),(((0:Int),(((0:Int),((0:Int),((0:Int),((0:Int),((0:Int),((⟨#[]⟩:ByteArray),())))))),([],((0:Int),())))),(false,()))))))
def q5:Y7:=((100:Int),((0:Int),((0:Int),((0:Int),([],([],(((0:Int),(((0:Int),((0:Int),((0:Int),((0:Int),((0:Int),((⟨#[]⟩:ByteArray),())))))),([],((0:Int),())))),())))))))
def q6:Y7:=((100:Int),((1:Int),((0:Int),((0:Int),(((0:Int)::[]),([],(((0:Int),(((0:Int),((0:Int),((0:Int),((0:Int),((0:Int),((⟨#[]⟩:ByteArray),())))))),([],((0:Int),())))),())))))))
def q7:Y11:=(q3,((1:Int),((1:Int),((false,((0:Int),(((0:Int),((0:Int),([],()))),([],(((0:Int),(((0:Int),((0:Int),((0:Int),((0:Int),((0:Int),((⟨#[]⟩:ByteArray),())))))),([],((0:Int),())))),()))))),(((0:Int),(((0:Int),((0:Int),((0:Int),((0:Int),((0:Int),((⟨#[]⟩:ByteArray),())))))),([],((0:Int),())))),(false,()))))))
def q8:Y11:=(q3,((2:Int),((1:Int),((false,((0:Int),(((0:Int),((0:Int),([],()))),([],(((0:Int),(((0:Int),((0:Int),((0:Int),((0:Int),((0:Int),((⟨#[]⟩:ByteArray),())))))),([],((0:Int),())))),()))))),(((0:Int),(((0:Int),((0:Int),((0:Int),((0:Int),((0:Int),((⟨#[]⟩:ByteArray),())))))),([],((0:Int),())))),(false,()))))))
def q9:Y5:=(q0,(((1:Int)::[]),(((0:Int),((5:Int),())),((([],((0:Int),()))::[]),()))))
def q10:Y11:=(q3,((3:Int),((1:Int),((true,((1:Int),(((1:Int),((0:Int),((q2::[]),()))),((((1:Int),(q2,((0:Int),())))::[]),(((0:Int),(((0:Int),((0:Int),((0:Int),((0:Int),((0:Int),((⟨#[]⟩:ByteArray),())))))),([],((0:Int),())))),()))))),(((0:Int),(((0:Int),((0:Int),((0:Int),((0:Int),((0:Int),((⟨#[]⟩:ByteArray),())))))),([],((0:Int),())))),(false,()))))))
def q11:Y11:=(q3,((4:Int),((1:Int),((true,((1:Int),(((1:Int),((0:Int),((q2::[]),()))),((((1:Int),(q2,((0:Int),())))::[]),(((0:Int),(((0:Int),((0:Int),((0:Int),((0:Int),((0:Int),((⟨#[]⟩:ByteArray),())))))),([],((0:Int),())))),()))))),(((0:Int),(((0:Int),((0:Int),((0:Int),((0:Int),((0:Int),((⟨#[]⟩:ByteArray),())))))),([],((0:Int),())))),(true,()))))))
def q12:Y5:=(q0,(((1:Int)::[]),(((1:Int),((5:Int),())),((([],((0:Int),()))::[]),()))))
def q13:Y11:=(q3,((5:Int),((1:Int),((true,((1:Int),(((1:Int),((0:Int),((q2::[]),()))),((((1:Int),(q2,((0:Int),())))::[]),(((0:Int),(((0:Int),((0:Int),((0:Int),((0:Int),((0:Int),((⟨#[]⟩:ByteArray),())))))),([],((0:Int),())))),()))))),(((0:Int),(((0:Int),((0:Int),((0:Int),((0:Int),((0:Int),((⟨#[]⟩:ByteArray),())))))),([],((0:Int),())))),(true,()))))))
def q14:Y5:=(q0,(((1:Int)::[]),(((1:Int),((5:Int),())),((((((1:Int),((0:Int),((q2::[]),())))::[]),((1:Int),()))::[]),()))))
def q15:Y11:=(q3,((6:Int),((1:Int),((true,((1:Int),(((1:Int),((0:Int),((q2::[]),()))),((((1:Int),(q2,((0:Int),())))::[]),(((0:Int),(((0:Int),((0:Int),((0:Int),((0:Int),((0:Int),((⟨#[]⟩:ByteArray),())))))),([],((0:Int),())))),()))))),(((0:Int),(((0:Int),((0:Int),((0:Int),((0:Int),((0:Int),((⟨#[]⟩:ByteArray),())))))),([],((0:Int),())))),(true,()))))))
def q16:Y5:=(q0,(((0:Int)::[]),(((1:Int),((5:Int),())),((((((1:Int),((0:Int),((q2::[]),())))::[]),((1:Int),()))::[]),()))))
def q17:Y7:=((100:Int),((2:Int),((0:Int),((0:Int),(((0:Int)::[]),((((((1:Int),((0:Int),((q2::[]),())))::[]),((1:Int),()))::[]),(((0:Int),(((0:Int),((0:Int),((0:Int),((0:Int),((0:Int),((⟨#[]⟩:ByteArray),())))))),([],((0:Int),())))),())))))))
def q18:Y7:=((100:Int),((0:Int),((0:Int),((1:Int),([],([],(((0:Int),(((0:Int),((0:Int),((0:Int),((0:Int),((0:Int),((⟨#[]⟩:ByteArray),())))))),([],((0:Int),())))),())))))))
def q19:Y7:=((100:Int),((6:Int),((0:Int),((1:Int),(((1:Int)::[]),((((((1:Int),((0:Int),((q2::[]),())))::[]),((1:Int),()))::[]),(((0:Int),(((0:Int),((0:Int),((0:Int),((0:Int),((0:Int),((⟨#[]⟩:ByteArray),())))))),((q2::[]),((0:Int),())))),())))))))
def q20:Y5:=(q0,(((4:Int)::[]),(((1:Int),((5:Int),())),((((((1:Int),((0:Int),((q2::[]),())))::[]),((1:Int),()))::[]),()))))
def q21:Y7:=((100:Int),((3:Int),((0:Int),((2:Int),([],([],(((0:Int),(((0:Int),((0:Int),((0:Int),((0:Int),((0:Int),((⟨#[]⟩:ByteArray),())))))),([],((0:Int),())))),())))))))
def q22:Y7:=((100:Int),((4:Int),((0:Int),((2:Int),([],([],(((0:Int),(((0:Int),((0:Int),((0:Int),((0:Int),((0:Int),((⟨#[]⟩:ByteArray),())))))),([],((0:Int),())))),())))))))
def q23:Y5:=(q0,(((8:Int)::[]),(((1:Int),((5:Int),())),((((((1:Int),((0:Int),((q2::[]),())))::[]),((1:Int),()))::[]),()))))
def q24:Y7:=((100:Int),((6:Int),((0:Int),((2:Int),([],([],(((0:Int),(((0:Int),((0:Int),((0:Int),((0:Int),((0:Int),((⟨#[]⟩:ByteArray),())))))),((q2::[]),((0:Int),())))),())))))))
theorem l_open:F_a (q0,())=some (q1,(0:Int),()):=by kernel_rfl
theorem l_enc:F_b (q2,())=some ((⟨#[1,1,1,1,0,1,5,1,9,1,10,0,0]⟩:ByteArray),true,()):=by kernel_rfl
theorem l_new:F_c (q3,())=some (q4,()):=by kernel_rfl
theorem l_snew:F_3 ((100:Int),())=some (q5,()):=by kernel_rfl
theorem l_s1:F_2 (q5,(8:Int),q1,())=some (q6,q1,(0:Int),()):=by kernel_rfl
theorem l_t0:F_5 (q4,(1:Int),q1,())=some (q7,q1,[],false,()):=by kernel_rfl
theorem l_t1:F_5 (q7,(1:Int),q1,())=some (q8,q9,[],false,()):=by kernel_rfl
theorem l_t2:F_5 (q8,(1:Int),q9,())=some (q10,q9,[],false,()):=by kernel_rfl
theorem l_t3:F_5 (q10,(1:Int),q9,())=some (q11,q12,(((1:Int),(((1:Int),((0:Int),((5:Int),((9:Int),((10:Int),((⟨#[]⟩:ByteArray),())))))),((0:Int),())))::[]),true,()):=by kernel_rfl
theorem l_t4:F_5 (q11,(1:Int),q12,())=some (q13,q14,[],false,()):=by kernel_rfl
theorem l_t5:F_5 (q13,(1:Int),q14,())=some (q15,q16,[],false,()):=by kernel_rfl
theorem l_s2:F_2 (q6,(8:Int),q16,())=some (q17,q16,(0:Int),()):=by kernel_rfl
theorem l_s3:F_2 (q17,(8:Int),q16,())=some (q18,q16,(1:Int),()):=by kernel_rfl
theorem l_r1:F_0 (q18,(8:Int),q16,(3:Int),())=some (q19,q16,()):=by kernel_rfl
theorem l_r2:F_0 (q5,(8:Int),q20,(99:Int),())=some (q21,q20,()):=by kernel_rfl
theorem l_r3:F_0 (q21,(8:Int),q16,(1:Int),())=some (q22,q23,()):=by kernel_rfl
theorem l_r4:F_0 (q22,(8:Int),q23,(99:Int),())=some (q24,q16,()):=by kernel_rfl
end Go.Proofs.YtdbjakibneeeiaaGreatDoor.Ex
namespace Go.Proofs.YtdbjakibneeeiaaGreatDoor.Ex
open Go.RowKit Sx
theorem xb_to {α R:Type} {o:Option α} {v:α} {k:α→Option R} {r:Option R} (h:o=some v) (h2:k v=r):xb o k=r:=by rw [h];exact h2
theorem gd_to {R:Type} {c:Bool} {o r:Option R} (h:c=true) (h2:o=r):gd c o=r:=by rw [h];exact h2
theorem xbr_to {R:Type} {c:Bool} {a b r:Option R} (h:c=true) (h2:a=r):xbr c a b=r:=by rw [h];exact h2
theorem xbr_no {R:Type} {c:Bool} {a b r:Option R} (h:c=false) (h2:b=r):xbr c a b=r:=by rw [h];exact h2
theorem both_to {R:Type} [Same R] {x y:Option R} {a:R} (h:x=some a) (h2:y=some a) (h3:Same.eq a a=true):both x y=some a:=by
 rw [h,h2]
 show gd (Same.eq a a) (some a)=some a
 rw [h3];rfl
theorem xloop_go {S R:Type} {step:S→Option (S ⊕ R)} {n:Nat} {s s':S} {r:Option R} (h:step s=some (.inl s')) (k:xloop step n s'=r):xloop step (n+1) s=r:=by rw [xloop_step,h];exact k
theorem xloop_end {S R:Type} {step:S→Option (S ⊕ R)} {n:Nat} {s:S} {r:R} (h:step s=some (.inr r)):xloop step (n+1) s=some r:=by rw [xloop_step,h]
theorem xmany_8:xmany=9999999999999999993+1+1+1+1+1+1+1:=by kernel_rfl
theorem live18_of (fo:DenL [z2]→Option (DenL [z5,.int])) (fe:DenL [z0]→Option (DenL [.str,.bool])) (fn:DenL [z8]→Option (DenL [z11])) (fw:DenL [.int]→Option (DenL [z7])) (fs:DenL [z7,.int,z5]→Option (DenL [z7,z5,.int])) (ft:DenL [z11,.int,z5]→Option (DenL [z11,z5,(.row z9),.bool])) (fr:DenL [z7,.int,z5,.int]→Option (DenL [z7,z5]))
 (l_open:fo (q0,())=some (q1,(0:Int),()))
 (l_enc:fe (q2,())=some ((⟨#[1,1,1,1,0,1,5,1,9,1,10,0,0]⟩:ByteArray),true,()))
 (l_new:fn (q3,())=some (q4,()))
 (l_snew:fw ((100:Int),())=some (q5,()))
 (l_s1:fs (q5,(8:Int),q1,())=some (q6,q1,(0:Int),()))
 (l_t0:ft (q4,(1:Int),q1,())=some (q7,q1,[],false,()))
 (l_t1:ft (q7,(1:Int),q1,())=some (q8,q9,[],false,()))
 (l_t2:ft (q8,(1:Int),q9,())=some (q10,q9,[],false,()))
 (l_t3:ft (q10,(1:Int),q9,())=some (q11,q12,(((1:Int),(((1:Int),((0:Int),((5:Int),((9:Int),((10:Int),((⟨#[]⟩:ByteArray),())))))),((0:Int),())))::[]),true,()))
 (l_t4:ft (q11,(1:Int),q12,())=some (q13,q14,[],false,()))
 (l_t5:ft (q13,(1:Int),q14,())=some (q15,q16,[],false,()))
 (l_s2:fs (q6,(8:Int),q16,())=some (q17,q16,(0:Int),()))
 (l_s3:fs (q17,(8:Int),q16,())=some (q18,q16,(1:Int),()))
 (l_r1:fr (q18,(8:Int),q16,(3:Int),())=some (q19,q16,()))
 (l_r2:fr (q5,(8:Int),q20,(99:Int),())=some (q21,q20,()))
 (l_r3:fr (q21,(8:Int),q16,(1:Int),())=some (q22,q23,()))
 (l_r4:fr (q22,(8:Int),q23,(99:Int),())=some (q24,q16,())):liveF fo fe fn fw fs ft fr=some (true,()):=by
 unfold liveF
 refine xb_to l_open ?_
 refine xb_to l_enc ?_
 refine xb_to l_new ?_
 refine xb_to l_snew ?_
 refine xb_to l_s1 ?_
 refine xb_to (by
  rw [xmany_8]
  refine xloop_go (xbr_to (by kernel_rfl) (xb_to l_t0 (gd_to (by kernel_rfl) rfl))) ?_
  refine xloop_go (xbr_to (by kernel_rfl) (xb_to l_t1 (gd_to (by kernel_rfl) rfl))) ?_
  refine xloop_go (xbr_to (by kernel_rfl) (xb_to l_t2 (gd_to (by kernel_rfl) rfl))) ?_
  refine xloop_go (xbr_to (by kernel_rfl) (xb_to l_t3 (gd_to (by kernel_rfl) rfl))) ?_
  refine xloop_go (xbr_to (by kernel_rfl) (xb_to l_t4 (gd_to (by kernel_rfl) rfl))) ?_
  refine xloop_go (xbr_to (by kernel_rfl) (xb_to l_t5 (gd_to (by kernel_rfl) rfl))) ?_
  exact xloop_end (xbr_no (by kernel_rfl) rfl)) ?_
 refine xb_to l_s2 ?_
 refine xb_to l_s3 ?_
 refine xb_to l_r1 ?_
 refine xbr_to (by kernel_rfl) ?_
 refine xbr_no (by kernel_rfl) ?_
 apply xb_to
 ·repeat' (first
   | refine xb_to l_snew ?_
   | refine xb_to l_r2 ?_
   | apply both_to
   | (show Same.eq _ _=true;kernel_rfl)
   | exact rfl)
 repeat' (first
  | refine xb_to l_r3 ?_
  | refine xb_to l_r4 ?_
  | refine gd_to (by kernel_rfl) ?_
  | refine xbr_to (by kernel_rfl) ?_
  | refine xbr_no (by kernel_rfl) ?_
  | exact rfl)
theorem live18:F_1 ()=some (true,()):=(R_00 ()).trans (live18_of F_a F_b F_c F_3 F_2 F_5 F_0 l_open l_enc l_new l_snew l_s1 l_t0 l_t1 l_t2 l_t3 l_t4 l_t5 l_s2 l_s3 l_r1 l_r2 l_r3 l_r4)
end Go.Proofs.YtdbjakibneeeiaaGreatDoor.Ex
