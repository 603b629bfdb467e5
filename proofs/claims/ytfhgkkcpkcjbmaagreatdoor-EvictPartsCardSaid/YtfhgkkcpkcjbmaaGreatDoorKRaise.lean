/- Layer 1: Raise, of the code and of the document, by contract. -/
import Derived.Test.YtfhgkkcpkcjbmaaGreatDoorChecked
import Derived.WalkKit
import Derived.ProofKit
import Derived.WalkLawsBesides
import Derived.Lib.Hide
set_option linter.all false
set_option maxHeartbeats 4000000
set_option maxRecDepth 100000
namespace Go.Proofs.YtfhgkkcpkcjbmaaGreatDoor.rz
open Go.RowKit
open Go.RowKit Go.ChangeShapes Go.WideShapes
theorem within_yes (n m:Int) (w:World) (h:0≤n) (h':n≤m) :
  Calls Tryz.prog 227 #[.int .i64 n,.int .i64 m] w fun e w'=>e=.returned (.bool true)∧w=w':=by
 go_enter Tryz.func227,Tryz.ntmps227
 go_wp2
 go_ret
 exact ⟨rfl,rfl⟩
theorem within_no (n m:Int) (w:World) (h:n<0∨m<n) :
  Calls Tryz.prog 227 #[.int .i64 n,.int .i64 m] w fun e w'=>e=.returned (.bool false)∧w=w':=by
 by_cases h0:n<0
 ·go_enter Tryz.func227,Tryz.ntmps227
  go_wp2
  go_ret
  exact ⟨rfl,rfl⟩
 ·have h1:decide (n≤m)=false:=by simp;omega
  have h2:0≤n:=by omega
  clear h h0
  go_enter Tryz.func227,Tryz.ntmps227
  go_wp2
  go_ret
  exact ⟨rfl,rfl⟩
def raised (t p:Int):Int:=if t+1<(t*(100+p)+99) / 100 then (t*(100+p)+99) / 100 else t+1
theorem prod_le (t p:Int) (c1:0≤t) (c2:t≤1099511627776) (c3:0≤p) (c4:p≤100):0≤t*(100+p)∧t*(100+p)≤219902325555200∧100*t≤t*(100+p):=by
 have h1:t*(100+p)≤1099511627776*(100+p):=Int.mul_le_mul_of_nonneg_right c2 (by omega)
 have h2:0≤t*p:=Int.mul_nonneg c1 c3
 have h3:t*(100+p)=t*100+t*p:=Int.mul_add _ _ _
 omega
theorem raise_no (t p:Int) (w:World) (h:t<0∨1099511627776<t∨p<0∨100<p) :
  Calls Tryz.prog 239 #[.int .i64 t,.int .i64 p] w fun e w'=>e=.returned (.tuple #[.int .i64 0,.bool false])∧w=w':=by
 by_cases c:t<0∨1099511627776<t
 ·go_enter Tryz.func239,Tryz.ntmps239
  go_wp2_with fail
  refine (within_no _ _ _ c).mono ?_
  rintro e w' ⟨rfl,rfl⟩
  go_wp2_with fail
  go_ret2
  exact ⟨rfl,rfl⟩
 ·have c1:0≤t:=by omega
  have c2:t≤1099511627776:=by omega
  have c3:p<0∨100<p:=by omega
  clear h c
  go_enter Tryz.func239,Tryz.ntmps239
  go_wp2_with fail
  refine (within_yes _ _ _ c1 c2).mono ?_
  rintro e w' ⟨rfl,rfl⟩
  go_wp2_with fail
  refine (within_no _ _ _ c3).mono ?_
  rintro e w' ⟨rfl,rfl⟩
  go_wp2_with fail
  go_ret2
  exact ⟨rfl,rfl⟩
theorem raise_most (t p:Int) (w:World) (c1:0≤t) (c2:t≤1099511627776) (c3:0≤p) (c4:p≤100) (h:1099511627776<raised t p) :
  Calls Tryz.prog 239 #[.int .i64 t,.int .i64 p] w fun e w'=>e=.returned (.tuple #[.int .i64 0,.bool false])∧w=w':=by
 obtain ⟨b1,b2,b3⟩:=prod_le t p c1 c2 c3 c4
 unfold raised at h
 by_cases c:t+1<(t*(100+p)+99) / 100
 ·rw [if_pos c] at h
  go_enter Tryz.func239,Tryz.ntmps239
  go_wp2_with fail
  refine (within_yes _ _ _ c1 c2).mono ?_
  rintro e w' ⟨rfl,rfl⟩
  go_wp2_with fail
  refine (within_yes _ _ _ c3 c4).mono ?_
  rintro e w' ⟨rfl,rfl⟩
  go_wp2_with fail
  go_ret2
  exact ⟨rfl,rfl⟩
 ·rw [if_neg c] at h
  go_enter Tryz.func239,Tryz.ntmps239
  go_wp2_with fail
  refine (within_yes _ _ _ c1 c2).mono ?_
  rintro e w' ⟨rfl,rfl⟩
  go_wp2_with fail
  refine (within_yes _ _ _ c3 c4).mono ?_
  rintro e w' ⟨rfl,rfl⟩
  go_wp2_with fail
  go_ret2
  exact ⟨rfl,rfl⟩
theorem raise_yes (t p:Int) (w:World) (c1:0≤t) (c2:t≤1099511627776) (c3:0≤p) (c4:p≤100) (h:raised t p≤1099511627776) :
  Calls Tryz.prog 239 #[.int .i64 t,.int .i64 p] w fun e w'=>e=.returned (.tuple #[.int .i64 (raised t p),.bool true])∧w=w':=by
 obtain ⟨b1,b2,b3⟩:=prod_le t p c1 c2 c3 c4
 by_cases c:t+1<(t*(100+p)+99) / 100
 ·have e:raised t p=(t*(100+p)+99) / 100:=by unfold raised;rw [if_pos c]
  rw [e] at h ⊢
  clear e
  go_enter Tryz.func239,Tryz.ntmps239
  go_wp2_with fail
  refine (within_yes _ _ _ c1 c2).mono ?_
  rintro e w' ⟨rfl,rfl⟩
  go_wp2_with fail
  refine (within_yes _ _ _ c3 c4).mono ?_
  rintro e w' ⟨rfl,rfl⟩
  go_wp2_with fail
  go_ret2
  exact ⟨rfl,rfl⟩
 ·have e:raised t p=t+1:=by unfold raised;rw [if_neg c]
  rw [e] at h ⊢
  clear e
  go_enter Tryz.func239,Tryz.ntmps239
  go_wp2_with fail
  refine (within_yes _ _ _ c1 c2).mono ?_
  rintro e w' ⟨rfl,rfl⟩
  go_wp2_with fail
  refine (within_yes _ _ _ c3 c4).mono ?_
  rintro e w' ⟨rfl,rfl⟩
  go_wp2_with fail
  go_ret2
  exact ⟨rfl,rfl⟩
def RaiseIn (t p:Int):Prop:=0≤t∧t≤1099511627776∧0≤p∧p≤100
instance (t p:Int):Decidable (RaiseIn t p):=by unfold RaiseIn;exact inferInstance
def RaiseOk (t p:Int):Prop:=RaiseIn t p∧raised t p≤1099511627776
instance (t p:Int):Decidable (RaiseOk t p):=by unfold RaiseOk;exact inferInstance
def raiseV (t p:Int):Int:=if RaiseOk t p then raised t p else 0
def raiseB (t p:Int):Bool:=decide (RaiseOk t p)
theorem raise_any (t p:Int) (w:World) :
  Calls Tryz.prog 239 #[.int .i64 t,.int .i64 p] w fun e w'=>e=.returned (.tuple #[.int .i64 (raiseV t p),.bool (raiseB t p)])∧w=w':=by
 by_cases h:RaiseOk t p
 ·rw [show raiseV t p=raised t p from if_pos h,show raiseB t p=true from decide_eq_true h]
  unfold RaiseOk RaiseIn at h
  exact raise_yes t p w h.1.1 h.1.2.1 h.1.2.2.1 h.1.2.2.2 h.2
 ·rw [show raiseV t p=0 from if_neg h,show raiseB t p=false from decide_eq_false h]
  unfold RaiseOk at h
  by_cases c:RaiseIn t p
  ·have c':=c
   unfold RaiseIn at c'
   exact raise_most t p w c'.1 c'.2.1 c'.2.2.1 c'.2.2.2 (Int.not_le.1 fun hh=>h ⟨c,hh⟩)
  ·unfold RaiseIn at c
   exact raise_no t p w (by omega)
end Go.Proofs.YtfhgkkcpkcjbmaaGreatDoor.rz
