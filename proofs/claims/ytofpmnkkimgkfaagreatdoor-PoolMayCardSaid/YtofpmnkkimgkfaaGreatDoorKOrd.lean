/- The order of transactions: who goes ahead of whom. -/
import Derived.Test.YtofpmnkkimgkfaaGreatDoorKTxnBetterC
set_option linter.all false
set_option maxHeartbeats 4000000
set_option maxRecDepth 100000
namespace Go.Proofs.YtofpmnkkimgkfaaGreatDoor.ord
open Go.RowKit codec txn
theorem less_tri (x y : List UInt8) (h : x ≠ y) : Op.bytesLess x y = true ∨ Op.bytesLess y x = true := by
 induction x generalizing y with
 | nil =>
  cases y with
  | nil => exact absurd rfl h
  | cons d y => exact Or.inl rfl
 | cons c x ih =>
  cases y with
  | nil => exact Or.inr rfl
  | cons d y =>
   rw [less_cons, less_cons]
   by_cases e : c = d
   ·subst e
    simp
    exact ih y (fun q => h (by rw [q]))
   ·have e' : ¬ d = c := fun q => e q.symm
    have e2 : c.toNat ≠ d.toNat := fun q => e (UInt8.toNat_inj.1 q)
    simp [e, e', UInt8.lt_iff_toNat_lt]
    omega
theorem less_trans (x y z : List UInt8) (h1 : Op.bytesLess x y = true) (h2 : Op.bytesLess y z = true) : Op.bytesLess x z = true := by
 induction x generalizing y z with
 | nil =>
  cases z with
  | nil =>
   cases y with
   | nil => cases h1
   | cons d y => cases h2
  | cons e z => rfl
 | cons c x ih =>
  cases y with
  | nil => cases h1
  | cons d y =>
   cases z with
   | nil => cases h2
   | cons e z =>
    rw [less_cons] at h1 h2 ⊢
    by_cases q1 : c = d
    ·subst q1
     by_cases q2 : c = e
     ·subst q2
      simp at h1 h2 ⊢
      exact ih y z h1 h2
     ·simp [q2] at h2 ⊢
      exact h2
    ·by_cases q2 : d = e
     ·subst q2
      simp [q1] at h1 ⊢
      exact h1
     ·simp [q1, q2, UInt8.lt_iff_toNat_lt] at h1 h2 ⊢
      left
      omega
theorem better_iff (a b : Tx) : betterV a b = true ↔ b.t < a.t ∨ (a.t = b.t ∧ (Op.bytesLess (idV a) (idV b) = true ∨ (idV a = idV b ∧ (a.s < b.s ∨ (a.s = b.s ∧ a.n < b.n))))) := by
 unfold betterV
 have irr : ∀ l, Op.bytesLess l l = false := less_self
 by_cases h1 : a.t = b.t
 ·rw [if_neg (by simpa using h1)]
  by_cases h2 : idV a = idV b
  ·rw [if_neg (by simpa using h2)]
   by_cases h3 : a.s = b.s
   ·rw [if_neg (by simpa using h3)]
    simp [h1, h2, h3, irr]
   ·rw [if_pos h3]
    simp [h1, h2, h3, irr]
  ·rw [if_pos h2]
   simp [h1, h2]
 ·rw [if_pos h1]
  simp [h1]
theorem better_self (a : Tx) : betterV a a = false := by
 cases h : betterV a a with
 | false => rfl
 | true =>
  rw [better_iff] at h
  have := less_self (idV a)
  rcases h with h | ⟨_, h | ⟨_, h | ⟨_, h⟩⟩⟩
  ·omega
  ·rw [this] at h; cases h
  ·omega
  ·omega
theorem better_trans (a b c : Tx) (h1 : betterV a b = true) (h2 : betterV b c = true) : betterV a c = true := by
 rw [better_iff] at h1 h2 ⊢
 rcases h1 with h1 | ⟨e1, h1⟩
 ·left
  rcases h2 with h2 | ⟨e2, _⟩ <;> omega
 ·rcases h2 with h2 | ⟨e2, h2⟩
  ·left; omega
  ·right
   refine ⟨by omega, ?_⟩
   rcases h1 with h1 | ⟨f1, h1⟩
   ·left
    rcases h2 with h2 | ⟨f2, _⟩
    ·exact less_trans _ _ _ h1 h2
    ·rwa [← f2]
   ·rcases h2 with h2 | ⟨f2, h2⟩
    ·left; rwa [f1]
    ·right
     exact ⟨f1.trans f2, by omega⟩
theorem better_or (a b c : Tx) (h : betterV a c = true) : betterV a b = true ∨ betterV b c = true := by
 rw [better_iff] at h ⊢
 rw [better_iff]
 have T1 := less_tri (idV a) (idV b)
 have T2 := less_tri (idV b) (idV c)
 have R1 := less_trans (idV b) (idV a) (idV c)
 have R2 := less_trans (idV a) (idV b) (idV c)
 have R3 := less_trans (idV a) (idV c) (idV b)
 rcases Int.lt_trichotomy b.t a.t with h1 | h1 | h1
 ·exact .inl (.inl h1)
 ·rcases Int.lt_trichotomy c.t b.t with h2 | h2 | h2
  ·exact .inr (.inl h2)
  ·rcases h with h | ⟨_, h⟩
   ·omega
   ·by_cases e1 : idV a = idV b
    ·rcases h with h | ⟨e2, h⟩
     ·exact .inr (.inr ⟨by omega, .inl (e1 ▸ h)⟩)
     ·by_cases hs : a.s = b.s
      ·rcases h with h | ⟨e3, h⟩
       ·exact .inr (.inr ⟨by omega, .inr ⟨e1.symm.trans e2, .inl (by omega)⟩⟩)
       ·by_cases hn : a.n < b.n
        ·exact .inl (.inr ⟨by omega, .inr ⟨e1, .inr ⟨hs, hn⟩⟩⟩)
        ·exact .inr (.inr ⟨by omega, .inr ⟨e1.symm.trans e2, .inr ⟨by omega, by omega⟩⟩⟩)
      ·by_cases hlt : a.s < b.s
       ·exact .inl (.inr ⟨by omega, .inr ⟨e1, .inl hlt⟩⟩)
       ·exact .inr (.inr ⟨by omega, .inr ⟨e1.symm.trans e2, .inl (by omega)⟩⟩)
    ·rcases T1 e1 with h3 | h3
     ·exact .inl (.inr ⟨by omega, .inl h3⟩)
     ·rcases h with h | ⟨e2, h⟩
      ·exact .inr (.inr ⟨by omega, .inl (R1 h3 h)⟩)
      ·exact .inr (.inr ⟨by omega, .inl (e2 ▸ h3)⟩)
  ·rcases h with h | ⟨h, _⟩ <;> omega
 ·rcases h with h | ⟨h, _⟩
  ·exact .inr (.inl (by omega))
  ·exact .inr (.inl (by omega))
end Go.Proofs.YtofpmnkkimgkfaaGreatDoor.ord
