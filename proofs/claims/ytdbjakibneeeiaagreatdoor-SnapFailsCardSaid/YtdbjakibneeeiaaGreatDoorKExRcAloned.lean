/- The laws: what they come to, told by live as a variable. -/
import Derived.Test.YtdbjakibneeeiaaGreatDoorKG38ExTF
import Derived.Test.YtdbjakibneeeiaaGreatDoorKExRl
set_option linter.all false
set_option maxHeartbeats 4000000
set_option maxRecDepth 100000
namespace Go.Proofs.YtdbjakibneeeiaaGreatDoor.Ex.d
open Go.RowKit Sx
def YZ (g:FuncId):List Tw→Bool
 | []=>true
 | (h,_)::l=>bif h==g then !uZ g l else YZ g l
def Z2 {g:FuncId} {s:bI}:∀{l:List Tw},YZ g l=true→lk l g=some s→iH g s l=l
 | [],_,_=>rfl
 | (h,t)::l,ho,hk=>by
  by_cases e:h=g
  ·subst e
   have ho:(bif h==h then !uZ h l else YZ h l)=true:=ho
   have hk:(bif h==h then some t else lk l h)=some s:=hk
   rw [beq_self_eq_true] at ho hk
   show (h,bif h==h then s else t)::iH h s l=(h,t)::l
   rw [beq_self_eq_true,xY (by cases hh:uZ h l with | false=>rfl | true=>rw [hh] at ho;cases ho)]
   cases hk;rfl
  ·have ho:(bif h==g then !uZ g l else YZ g l)=true:=ho
   have hk:(bif h==g then some t else lk l g)=some s:=hk
   rw [beq_false_of_ne e] at ho hk
   show (h,bif h==g then s else t)::iH g s l=(h,t)::l
   rw [beq_false_of_ne e,Z2 ho hk];rfl
end Go.Proofs.YtdbjakibneeeiaaGreatDoor.Ex.d
