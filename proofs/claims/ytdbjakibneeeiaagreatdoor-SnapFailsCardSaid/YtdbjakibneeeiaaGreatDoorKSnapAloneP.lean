/- SnapAlone, purely; of the document's encoding it is said that it is the program's. -/
import Derived.Test.YtdbjakibneeeiaaGreatDoorKG38ExTF
import Derived.Test.YtdbjakibneeeiaaGreatDoorKExRcAlone
set_option linter.all false
set_option maxHeartbeats 4000000
set_option maxRecDepth 100000
namespace Go.Proofs.YtdbjakibneeeiaaGreatDoor.Ex
open Go.RowKit Sx
def ZE {L:List cQ} {n:Nat} (h:lX n L) (hn:n≤1000) (hk:FA (.row z4) L):MJ (dQ L):=by
 refine ⟨?_,fun a ha=>?_⟩
 ·have:=qf h
  have e:(dQ L).length=(kY L).length:=List.length_map _
  omega
 ·obtain ⟨c,h1,h2⟩:=oy.1 (vk ha)
  refine ⟨Nat.le_trans ((h.2 c h1).2 a h2).1.1 (by decide),fun t ht=>?_⟩
  have k1:Jo [.row z1,.int] c:=hk.2 c h1
  have k2:Jo [.int,.int,.row z0] a:=k1.1.2 a h2
  have k3:Jo [.int,.int,.int,.int,.int,.str] t:=k2.2.2.1.2 t ht
  exact k3.2.2.2.2.2.1
def MJ.ok {L:List dc} (h:MJ L):Za L:=⟨h.1,fun a ha=>(h.2 a ha).1⟩
def a09 {R:Type} {o:Option R}:(bif isT (5:Int) then o else none)=o:=rfl
def ZM (c:Mf) (L:List dc) (o:af [.int,.int,.int,.str]):YY (c,L,((5:Int),o),())=xb (a03 (c,L,())) fun b=>az b.1 (a0j ((c,(L,(0:Int),()),((5:Int),o),()),())) (a0h ((c,(L,(0:Int),()),((5:Int),o),()),(1:Int),())):=by
 unfold YY
 exact a09
end Go.Proofs.YtdbjakibneeeiaaGreatDoor.Ex
