/- Plain facts on the hash and its digits; no walk. -/
import Derived.Test.YthjlilepialmoaaFnv
import Derived.Laws.BitsAllLaws
import Derived.OpenShut
namespace Go.Proofs.Ythjlilepialmoaa.fnv
open Go.RowKit
set_option linter.unusedVariables false

theorem wrap_u64 (x : Int) : IntKind.u64.wrap x = x % 18446744073709551616 := by
  simp [IntKind.wrap, IntKind.signed, IntKind.bits]

theorem hof_bd (l : List UInt8) : 0 ≤ hof l ∧ hof l ≤ 18446744073709551615 := by
  rcases List.eq_nil_or_concat l with rfl | ⟨l', b, rfl⟩
  · show 0 ≤ (14695981039346656037 : Int) ∧ (14695981039346656037 : Int) ≤ 18446744073709551615
    omega
  · unfold hof
    rw [List.concat_eq_append, hroll_append]
    exact hstep_bd _ b

theorem hstep_nat (v : Int) (h0 : 0 ≤ v) (h1 : v ≤ 18446744073709551615) (b : UInt8) : hstep v b = (((v.toNat ^^^ b.toNat) * 1099511628211 : Nat) : Int) % 18446744073709551616 := by
  obtain ⟨n, rfl⟩ := Int.eq_ofNat_of_zero_le h0
  have hb := b.toNat_lt
  unfold hstep
  rw [wrap_u64, wrap_u64, show ((b.toNat : Int) % 18446744073709551616) = (b.toNat : Int) from by omega, u64_xor_nat n b.toNat (by omega) (by omega), Int.toNat_natCast]
  simp

theorem mod_nat (X Y : Nat) (h : (X : Int) % 18446744073709551616 = (Y : Int) % 18446744073709551616) : X % 18446744073709551616 = Y % 18446744073709551616 := by omega

theorem mul_inj (x y : Nat) (hx : x < 18446744073709551616) (hy : y < 18446744073709551616) (h : ((x * 1099511628211 : Nat) : Int) % 18446744073709551616 = ((y * 1099511628211 : Nat) : Int) % 18446744073709551616) : x = y := by
  have hq : (1099511628211 * 14886173955864302971 : Nat) % 18446744073709551616 = 1 := by decide +kernel
  have h' : (x * 1099511628211) % 18446744073709551616 = (y * 1099511628211) % 18446744073709551616 := mod_nat _ _ h
  have e : ∀ z : Nat, z < 18446744073709551616 → ((z * 1099511628211) % 18446744073709551616 * 14886173955864302971) % 18446744073709551616 = z := by
    intro z hz
    rw [Nat.mod_mul_mod, Nat.mul_assoc, Nat.mul_mod, hq, Nat.mul_one, Nat.mod_mod]
    exact Nat.mod_eq_of_lt hz
  rw [← e x hx, ← e y hy, h']

theorem hstep_inj (v : Int) (h0 : 0 ≤ v) (h1 : v ≤ 18446744073709551615) (a b : UInt8) : hstep v a = hstep v b ↔ a = b := by
  constructor
  · intro h
    rw [hstep_nat v h0 h1, hstep_nat v h0 h1] at h
    have ha := a.toNat_lt
    have hb := b.toNat_lt
    have la : v.toNat ^^^ a.toNat < 2 ^ 64 := Nat.xor_lt_two_pow (by omega) (by omega)
    have lb : v.toNat ^^^ b.toNat < 2 ^ 64 := Nat.xor_lt_two_pow (by omega) (by omega)
    have e := mul_inj _ _ (by omega) (by omega) h
    have e' : v.toNat ^^^ (v.toNat ^^^ a.toNat) = v.toNat ^^^ (v.toNat ^^^ b.toNat) := by rw [e]
    rw [← Nat.xor_assoc, ← Nat.xor_assoc, Nat.xor_self, Nat.zero_xor, Nat.zero_xor] at e'
    exact UInt8.toNat_inj.1 e'
  · rintro rfl
    rfl

theorem hstep_zero (v : Int) (h0 : 0 ≤ v) (h1 : v ≤ 18446744073709551615) : hstep v 0 = (v * 1099511628211) % 18446744073709551616 := by
  rw [hstep_nat v h0 h1]
  simp
  omega

/-! The digits. -/
theorem bytesLess_snoc (x y : List UInt8) (a b : UInt8) (h : x.length = y.length) : Op.bytesLess (x ++ [a]) (y ++ [b]) = (Op.bytesLess x y || (x == y && decide (a < b))) := by
  induction x generalizing y with
  | nil =>
    cases y with
    | nil => simp [Op.bytesLess]
    | cons c y => simp at h
  | cons c x ih =>
    cases y with
    | nil => simp at h
    | cons d y =>
      simp only [List.cons_append, Op.bytesLess]
      rw [ih y (by simpa using h)]
      by_cases e : c = d
      · subst e
        simp
      · have e' : (c == d) = false := by simpa using e
        simp [e']

theorem digit_lt (m n : Nat) (hm : m < 16) (hn : n < 16) : decide (digit m < digit n) = decide (m < n) := by
  have h : ∀ a b : Fin 16, decide (digit a < digit b) = decide (a.val < b.val) := by decide
  exact h ⟨m, hm⟩ ⟨n, hn⟩

theorem digit_eq (m n : Nat) (hm : m < 16) (hn : n < 16) : digit m = digit n ↔ m = n := by
  have h : ∀ a b : Fin 16, digit a = digit b ↔ a.val = b.val := by decide
  exact h ⟨m, hm⟩ ⟨n, hn⟩

theorem digits_eq (n a b : Nat) (ha : a < 16 ^ n) (hb : b < 16 ^ n) : digits n a = digits n b ↔ a = b := by
  induction n generalizing a b with
  | zero =>
    simp only [Nat.pow_zero] at ha hb
    simp [digits]
    omega
  | succ n ih =>
    simp only [digits]
    have h1 : a / 16 < 16 ^ n := by rw [Nat.pow_succ] at ha; omega
    have h2 : b / 16 < 16 ^ n := by rw [Nat.pow_succ] at hb; omega
    constructor
    · intro h
      obtain ⟨e1, e2⟩ := List.append_inj' h rfl
      have e3 := (ih _ _ h1 h2).1 e1
      have e4 := (digit_eq _ _ (Nat.mod_lt _ (by omega)) (Nat.mod_lt _ (by omega))).1 (by simpa using e2)
      omega
    · rintro rfl
      rfl

theorem digits_less (n a b : Nat) (ha : a < 16 ^ n) (hb : b < 16 ^ n) : Op.bytesLess (digits n a) (digits n b) = decide (a < b) := by
  induction n generalizing a b with
  | zero =>
    simp only [Nat.pow_zero] at ha hb
    have : ¬ a < b := by omega
    simp [digits, Op.bytesLess, this]
  | succ n ih =>
    have h1 : a / 16 < 16 ^ n := by rw [Nat.pow_succ] at ha; omega
    have h2 : b / 16 < 16 ^ n := by rw [Nat.pow_succ] at hb; omega
    simp only [digits]
    rw [bytesLess_snoc _ _ _ _ (by rw [digits_len, digits_len]), ih _ _ h1 h2, digit_lt _ _ (Nat.mod_lt _ (by omega)) (Nat.mod_lt _ (by omega))]
    have e : (digits n (a / 16) == digits n (b / 16)) = decide (a / 16 = b / 16) := by
      rw [Bool.eq_iff_iff]
      simp [digits_eq n _ _ h1 h2]
    rw [e, ← Bool.decide_and, ← Bool.decide_or]
    congr 1
    apply propext
    omega
end Go.Proofs.Ythjlilepialmoaa.fnv
