/- How many bits a number has (math/bits.Len), by contract: Go's own text is walked. -/
import Derived.Test.YtdbjakibneeeiaaGreatDoorChecked
import Derived.Lib.Walk
import Derived.Lib.Strings
import Derived.Lib.Slices
import Derived.Lib.Small
import Derived.Lib.BitFns
set_option linter.all false
set_option maxHeartbeats 4000000
set_option maxRecDepth 100000
namespace Go.Proofs.YtdbjakibneeeiaaGreatDoor
def aj {α:Type}:=And.intro (@List.setIfInBounds_toArray α) (And.intro (@List.getElem_toArray α) (And.intro (@List.getElem_cons_zero α) (And.intro (@List.getElem_cons_succ α) (And.intro (@List.set_cons_zero α) (@List.set_cons_succ α)))))
end Go.Proofs.YtdbjakibneeeiaaGreatDoor
namespace Go.Proofs.YtdbjakibneeeiaaGreatDoor.cE
def iW (x:Int) (k q:Nat) (y:Int) (hq:q=2 ^ k) (h0:0≤y) (h1:y≤255) (hx:0≤x) (hx1:x≤18446744073709551615) (hy:y.toNat=x.toNat / q) (hk:k=0∨q≤x.toNat) :
  Lib.len8 y+k=(Lib.bitLen x.toNat:Int)∧0≤Lib.len8 y∧Lib.len8 y≤8:=by
 subst hq
 have l:=Lib.bitLen_le8' y h0 h1
 rw [Lib.len8_of y h0 h1]
 refine ⟨?_,by omega,by omega⟩
 rw [hy]
 rcases hk with rfl | hk
 ·simp
 ·rw [Lib.bitLen_shift k x.toNat hk (by omega)]
  omega
def Px (x:Int) (w:World) (h0:0≤x) (h1:x≤18446744073709551615) :
  Calls Tryz.prog 243 #[.int .u64 x] w fun e w'=>e=.returned (.int .i64 (Lib.bitLen x.toNat))∧w=w':=by
 go_enter Tryz.func243,Tryz.ntmps243
 go_wp2
 all_goals (go_ret;refine ⟨congrArg (fun n=>Ending.returned (Value.int IntKind.i64 n)) ?_,rfl⟩)
 all_goals first
  | (obtain ⟨e,l,l'⟩:=iW x 56 72057594037927936 (x / 4294967296 / 65536 / 256 % 256) (by decide) (by omega) (by omega) h0 h1 (by omega) (by omega);omega)
  | (obtain ⟨e,l,l'⟩:=iW x 48 281474976710656 (x / 4294967296 / 65536 % 256) (by decide) (by omega) (by omega) h0 h1 (by omega) (by omega);omega)
  | (obtain ⟨e,l,l'⟩:=iW x 40 1099511627776 (x / 4294967296 / 256 % 256) (by decide) (by omega) (by omega) h0 h1 (by omega) (by omega);omega)
  | (obtain ⟨e,l,l'⟩:=iW x 32 4294967296 (x / 4294967296 % 256) (by decide) (by omega) (by omega) h0 h1 (by omega) (by omega);omega)
  | (obtain ⟨e,l,l'⟩:=iW x 24 16777216 (x / 65536 / 256 % 256) (by decide) (by omega) (by omega) h0 h1 (by omega) (by omega);omega)
  | (obtain ⟨e,l,l'⟩:=iW x 16 65536 (x / 65536 % 256) (by decide) (by omega) (by omega) h0 h1 (by omega) (by omega);omega)
  | (obtain ⟨e,l,l'⟩:=iW x 8 256 (x / 256 % 256) (by decide) (by omega) (by omega) h0 h1 (by omega) (by omega);omega)
  | (obtain ⟨e,l,l'⟩:=iW x 0 1 (x % 256) (by decide) (by omega) (by omega) h0 h1 (by omega) (by omega);omega)
def len (x:Int) (w:World) (h0:0≤x) (h1:x≤18446744073709551615) :
  Calls Tryz.prog 229 #[.int .u64 x] w fun e w'=>e=.returned (.int .i64 (Lib.bitLen x.toNat))∧w=w':=by
 go_enter Tryz.func229,Tryz.ntmps229
 go_wp2_with (go_at_call 243;refine (Px x _ h0 h1).mono ?_;rintro e w' ⟨rfl,rfl⟩)
 go_ret
 exact ⟨rfl,rfl⟩
end Go.Proofs.YtdbjakibneeeiaaGreatDoor.cE
