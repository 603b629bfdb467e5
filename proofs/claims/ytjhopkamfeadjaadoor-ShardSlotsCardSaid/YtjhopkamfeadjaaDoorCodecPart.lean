/- Layer 3 (codec: part, whole), by contract. -/
import Derived.Test.YtjhopkamfeadjaaDoorCodec
import Derived.Laws.BitsAllLaws
namespace Go.Proofs.YtjhopkamfeadjaaDoor.codec
open Go.RowKit
set_option linter.unusedVariables false
set_option linter.unusedSimpArgs false

/-- The bytes that lie at a place. -/
def BytesAt (w : World) (b off : Nat) (l : List UInt8) : Prop := ∀ j (hj : j < l.length), w.cell? ⟨b, off + j, none⟩ = some (.int .u8 (l[j].toNat : Int))

/-- The number that bytes spell, as an int holds it. -/
def wholeI (l : List UInt8) : Int := wrap64 (whole l)
theorem wholeI_low (l : List UInt8) (h : whole l < 9223372036854775808) : wholeI l = whole l := by
  unfold wholeI wrap64
  omega

theorem i64_or_byte (x : Int) (c : Nat) (hc : c < 256) (hx : x % 256 = 0) : bits .or .i64 x (c : Int) = wrap64 (x + c) := by
  have e : (BitVec.ofInt 64 x ||| BitVec.ofInt 64 (c : Int)).toNat = (x % 18446744073709551616).toNat + c := by
    rw [BitVec.toNat_or, BitVec.toNat_ofInt, BitVec.toNat_ofInt]
    have h1 : ((c : Int) % ((2 ^ 64 : Nat) : Int)).toNat = c := by omega
    rw [h1]
    exact nat_join8 _ c (by omega) hc
  show IntKind.i64.wrap ((BitVec.ofInt 64 x ||| BitVec.ofInt 64 (c : Int)).toNat : Int) = _
  rw [e, IntKind.wrap_i64]
  unfold wrap64
  omega

theorem whole_step (x : Int) (W c : Nat) (hc : c < 256) (hx : x = wrap64 W) : bits .or .i64 (wrap64 (x * 256)) (c : Int) = wrap64 ((W * 256 + c : Nat) : Int) := by
  rw [i64_or_byte _ c hc (by unfold wrap64; omega), hx]
  unfold wrap64
  omega

end Go.Proofs.YtjhopkamfeadjaaDoor.codec
