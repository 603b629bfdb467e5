/- Layer 18 (snap), purely: arguments as they may be. -/
import Derived.Test.YtdbjakibneeeiaaGreatDoorKExPh
import Derived.Test.YtdbjakibneeeiaaGreatDoorKG28ExO
import Derived.Test.YtdbjakibneeeiaaGreatDoorKG45ExLv
set_option linter.all false
set_option maxHeartbeats 4000000
set_option maxRecDepth 100000
namespace Go.Proofs.YtdbjakibneeeiaaGreatDoor.Ex
open Go.RowKit Sx
theorem shs_of (L:List P_0) (h:OkV (.row z4) L):ShsLen L∧∀c:P_0,c∈L→∀a:P_3,a∈c.1→inI a.1=true:=by
 have hz4:∀c:P_0,c∈L→OkV z4 c:=h.2
 refine ⟨⟨h.1,fun c hc=>?_⟩,fun c hc a ha=>?_⟩
 ·have h1:OkL [.row z1,.int] c:=hz4 c hc
  refine ⟨h1.1.1,fun a ha=>?_⟩
  have h2:OkL [.int,.int,.row z0] a:=h1.1.2 a ha
  exact h2.2.2.1.1
 ·have h1:OkL [.row z1,.int] c:=hz4 c hc
  have h2:OkL [.int,.int,.row z0] a:=h1.1.2 a ha
  have h3:Fits a.1:=h2.1
  exact inI_of h3.1 (Int.lt_add_one_iff.1 h3.2)
theorem shG_of {L:List P_0} (h:∀c:P_0,c∈L→∀a:P_3,a∈c.1→inI a.1=true) {c:P_0} (hc:c∈L) (h2:ShOk c):ShG c:=⟨h2.1,fun a ha=>⟨h2.2 a ha,h c hc a ha⟩⟩
theorem sgG_of (s:P_2) (h:OkV (.row z4) s.2.2.2.1) (hs:SgOk s):SgG s:=⟨hs.1,hs.2.1,fun c hc=>shG_of (shs_of _ h).2 hc (hs.2.2 c hc)⟩
theorem tkG_of (v:P_1) (hg:Fits v.1) (h:OkV (.row z4) v.2.2.2.2.2.1) (hv:TkOk v):TkG 20 v:=⟨hv.1,⟨Nat.le_trans hv.2.1 (by decide),fun c hc=>shG_of (shs_of _ h).2 hc (hv.2.2.1 c hc)⟩,Nat.le_trans hv.2.2.2 (by decide),inI_of hg.1 (Int.lt_add_one_iff.1 hg.2)⟩
theorem lived:Tells (xb (F_1 ()) fun y:Bool×Unit=>some y) (· = (true,())):=⟨_,xb_e live18,rfl⟩
theorem stepsN_eq {n:Int} (h0:0≤n) (h1:n≤120):stepsN n=n.toNat:=by
 unfold stepsN
 rw [if_neg (by omega)]
end Go.Proofs.YtdbjakibneeeiaaGreatDoor.Ex
