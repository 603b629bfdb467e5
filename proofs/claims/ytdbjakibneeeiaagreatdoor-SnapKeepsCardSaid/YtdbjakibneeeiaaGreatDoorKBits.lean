/- How many bits a number has (math/bits.Len), by contract: Go's own text is walked. -/
import Derived.Test.YtdbjakibneeeiaaGreatDoorChecked
import Derived.Lib.Walk
import Derived.Lib.Strings
import Derived.Lib.Slices
import Derived.Lib.Small
import Derived.Lib.BitFns
set_option linter.all false
set_option maxHeartbeats 4000000
set_option maxRecDepth 100000
namespace Go.Proofs.YtdbjakibneeeiaaGreatDoor.codec
theorem bits_of (x:Int) (k q:Nat) (y:Int) (hq:q=2 ^ k) (h0:0≤y) (h1:y≤255) (hx:0≤x) (hx1:x≤18446744073709551615) (hy:y.toNat=x.toNat / q) (hk:k=0∨q≤x.toNat) :
  Lib.len8 y+k=(Lib.bitLen x.toNat:Int)∧0≤Lib.len8 y∧Lib.len8 y≤8:=by
 subst hq
 have l:=Lib.bitLen_le8' y h0 h1
 rw [Lib.len8_of y h0 h1]
 refine ⟨?_,by omega,by omega⟩
 rw [hy]
 rcases hk with rfl | hk
 ·simp
 ·rw [Lib.bitLen_shift k x.toNat hk (by omega)]
  omega
theorem len64 (x:Int) (w:World) (h0:0≤x) (h1:x≤18446744073709551615) :
  Calls Tryz.prog 243 #[.int .u64 x] w fun e w'=>e=.returned (.int .i64 (Lib.bitLen x.toNat))∧w=w':=by
 go_enter Tryz.func243,Tryz.ntmps243
 go_wp2
 all_goals (go_ret;refine ⟨congrArg (fun n=>Ending.returned (Value.int IntKind.i64 n)) ?_,rfl⟩)
 all_goals first
  | (obtain ⟨e,l,l'⟩:=bits_of x 56 72057594037927936 (x / 4294967296 / 65536 / 256 % 256) (by decide) (by omega) (by omega) h0 h1 (by omega) (by omega);omega)
  | (obtain ⟨e,l,l'⟩:=bits_of x 48 281474976710656 (x / 4294967296 / 65536 % 256) (by decide) (by omega) (by omega) h0 h1 (by omega) (by omega);omega)
  | (obtain ⟨e,l,l'⟩:=bits_of x 40 1099511627776 (x / 4294967296 / 256 % 256) (by decide) (by omega) (by omega) h0 h1 (by omega) (by omega);omega)
  | (obtain ⟨e,l,l'⟩:=bits_of x 32 4294967296 (x / 4294967296 % 256) (by decide) (by omega) (by omega) h0 h1 (by omega) (by omega);omega)
  | (obtain ⟨e,l,l'⟩:=bits_of x 24 16777216 (x / 65536 / 256 % 256) (by decide) (by omega) (by omega) h0 h1 (by omega) (by omega);omega)
  | (obtain ⟨e,l,l'⟩:=bits_of x 16 65536 (x / 65536 % 256) (by decide) (by omega) (by omega) h0 h1 (by omega) (by omega);omega)
  | (obtain ⟨e,l,l'⟩:=bits_of x 8 256 (x / 256 % 256) (by decide) (by omega) (by omega) h0 h1 (by omega) (by omega);omega)
  | (obtain ⟨e,l,l'⟩:=bits_of x 0 1 (x % 256) (by decide) (by omega) (by omega) h0 h1 (by omega) (by omega);omega)
theorem len (x:Int) (w:World) (h0:0≤x) (h1:x≤18446744073709551615) :
  Calls Tryz.prog 229 #[.int .u64 x] w fun e w'=>e=.returned (.int .i64 (Lib.bitLen x.toNat))∧w=w':=by
 go_enter Tryz.func229,Tryz.ntmps229
 go_wp2_with (go_at_call 243;refine (len64 x _ h0 h1).mono ?_;rintro e w' ⟨rfl,rfl⟩)
 go_ret
 exact ⟨rfl,rfl⟩
end Go.Proofs.YtdbjakibneeeiaaGreatDoor.codec
