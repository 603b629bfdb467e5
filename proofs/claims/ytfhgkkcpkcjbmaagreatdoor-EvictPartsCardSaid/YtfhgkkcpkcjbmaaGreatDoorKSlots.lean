/- Layer 1 (sat.Slots) and the document's own Slots, by contract. -/
import Derived.Test.YtfhgkkcpkcjbmaaGreatDoorChecked
import Derived.WalkKit
import Derived.ProofKit
import Derived.WalkLawsBesides
import Derived.Lib.Hide
set_option linter.all false
set_option maxHeartbeats 4000000
set_option maxRecDepth 100000
namespace Go.Proofs.YtfhgkkcpkcjbmaaGreatDoor.sat
open Go.RowKit
theorem ret_int {k:IntKind} {a b:Int} (h:a=b):Ending.returned (.int k a)=.returned (.int k b):=by rw [h]
theorem within_yes (n m:Int) (w:World) (h:0≤n) (h':n≤m) :
  Calls Tryz.prog 227 #[.int .i64 n,.int .i64 m] w fun e w'=>e=.returned (.bool true)∧w=w':=by
 go_enter Tryz.func227,Tryz.ntmps227
 go_wp2
 go_ret
 exact ⟨rfl,rfl⟩
theorem within_no (n m:Int) (w:World) (h:n<0∨m<n) :
  Calls Tryz.prog 227 #[.int .i64 n,.int .i64 m] w fun e w'=>e=.returned (.bool false)∧w=w':=by
 by_cases h0:n<0
 ·go_enter Tryz.func227,Tryz.ntmps227
  go_wp2
  go_ret
  exact ⟨rfl,rfl⟩
 ·have h1:decide (n≤m)=false:=by simp;omega
  have h2:0≤n:=by omega
  clear h h0
  go_enter Tryz.func227,Tryz.ntmps227
  go_wp2
  go_ret
  exact ⟨rfl,rfl⟩
theorem slots_no (n:Int) (w:World) (h:n<0∨400<n) :
  Calls Tryz.prog 241 #[.int .i64 n] w fun e w'=>e=.returned (.int .i64 0)∧w=w':=by
 go_enter Tryz.func241,Tryz.ntmps241
 go_wp2_with (first | (go_at_call 227;refine (within_no _ _ _ h).mono ?_;rintro e w' ⟨rfl,rfl⟩))
 go_ret
 exact ⟨rfl,rfl⟩
def slotsOf (n:Int):Int:=if n≤32 then 1 else (n+31) / 32
theorem slots_yes (n:Int) (w:World) (h:0≤n) (h':n≤400) :
  Calls Tryz.prog 241 #[.int .i64 n] w fun e w'=>e=.returned (.int .i64 (slotsOf n))∧w=w':=by
 go_enter Tryz.func241,Tryz.ntmps241
 go_wp2_with (first | (go_at_call 227;refine (within_yes _ _ _ h h').mono ?_;rintro e w' ⟨rfl,rfl⟩))
 all_goals
  go_ret
  exact ⟨ret_int (by unfold slotsOf;split <;> omega),rfl⟩
def slotsV (n:Int):Int:=if 0≤n∧n≤400 then slotsOf n else 0
theorem slots_any (n:Int) (w:World) :
  Calls Tryz.prog 241 #[.int .i64 n] w fun e w'=>e=.returned (.int .i64 (slotsV n))∧w=w':=by
 by_cases h:0≤n∧n≤400
 ·rw [show slotsV n=slotsOf n from if_pos h]
  exact slots_yes n w h.1 h.2
 ·rw [show slotsV n=0 from if_neg h]
  exact slots_no n w (by omega)
end Go.Proofs.YtfhgkkcpkcjbmaaGreatDoor.sat
