/- Layer 18 (snap), purely: arguments as they may be. -/
import Derived.Test.YtdbjakibneeeiaaGreatDoorKExPh
import Derived.Test.YtdbjakibneeeiaaGreatDoorKG26ExO
import Derived.Test.YtdbjakibneeeiaaGreatDoorKG42ExLv
set_option linter.all false
set_option maxHeartbeats 4000000
set_option maxRecDepth 100000
namespace Go.Proofs.YtdbjakibneeeiaaGreatDoor.Ex
open Go.RowKit Sx
def wE (L:List cQ) (h:FA (.row z4) L):Az L∧∀c:cQ,c∈L→∀a:dc,a∈c.1→dx a.1=true:=by
 have hz4:∀c:cQ,c∈L→FA z4 c:=h.2
 refine ⟨⟨h.1,fun c hc=>?_⟩,fun c hc a ha=>?_⟩
 ·have h1:Jo [.row z1,.int] c:=hz4 c hc
  refine ⟨h1.1.1,fun a ha=>?_⟩
  have h2:Jo [.int,.int,.row z0] a:=h1.1.2 a ha
  exact h2.2.2.1.1
 ·have h1:Jo [.row z1,.int] c:=hz4 c hc
  have h2:Jo [.int,.int,.row z0] a:=h1.1.2 a ha
  have h3:Fits a.1:=h2.1
  exact bS h3.1 (Int.lt_add_one_iff.1 h3.2)
def Ge {L:List cQ} (h:∀c:cQ,c∈L→∀a:dc,a∈c.1→dx a.1=true) {c:cQ} (hc:c∈L) (h2:Iy c):TP c:=⟨h2.1,fun a ha=>⟨h2.2 a ha,h c hc a ha⟩⟩
def M6 (s:P_2) (h:FA (.row z4) s.2.2.2.1) (hs:Q0 s):xW s:=⟨hs.1,hs.2.1,fun c hc=>Ge (wE _ h).2 hc (hs.2.2 c hc)⟩
def Cw:aa (xb (F_1 ()) fun y:Bool×Unit=>some y) (· = (true,())):=⟨_,aY Kq,rfl⟩
def Zh {n:Int} (h0:0≤n) (h1:n≤120):cZ n=n.toNat:=by
 unfold cZ
 rw [if_neg (by omega)]
end Go.Proofs.YtdbjakibneeeiaaGreatDoor.Ex
