/- The walk of hopperlaw10.TurnRounds. -/
import Derived.Test.YtjeghmlingfnjaaTurnLive
namespace Go.Proofs.Ytjeghmlingfnjaa.turnRounds
open Go.RowKit Sx turn
set_option linter.unusedVariables false
set_option linter.unusedSimpArgs false
theorem rnds_all (bs : List Bool) (last : Int) (h : (ups bs).length ≤ 1000) : rnds bs last ((ups bs).length : Nat) = (ord bs (frm bs last)).map fun x : Nat => (x : Int) := by
  have hl := ord_length bs (frm bs last) (frm_le bs last)
  have hm : (min (((ups bs).length : Nat) : Int) 1000).toNat = (ups bs).length := by omega
  rw [rnds_cyc bs last _ (ups bs).length (by rw [hl, hm]; simp), hm]
  have := cyc_take (ord bs (frm bs last)) (ups bs).length (by omega)
  by_cases h0 : (ups bs).length = 0
  · rw [if_pos h0]
    rw [h0] at hl
    rw [List.eq_nil_of_length_eq_zero hl]
    rfl
  · rw [if_neg h0, ← this, List.take_of_length_le (by omega)]
theorem not_yet {O : List Nat} (hd : O.Nodup) {k x : Nat} (h : O[k]? = some x) : x ∉ O.take k := by
  obtain ⟨hk, rfl⟩ := List.getElem?_eq_some_iff.1 h
  intro hm
  obtain ⟨j, hj, he⟩ := List.getElem_of_mem hm
  rw [List.length_take] at hj
  rw [List.getElem_take] at he
  exact absurd he (List.pairwise_iff_getElem.1 hd j k (by omega) hk (by omega))
theorem take_more {O : List Nat} {k x : Nat} (h : O[k]? = some x) : O.take (k + 1) = O.take k ++ [x] := by
  rw [List.take_add_one, h]
  rfl
theorem roundsT (bs : List Bool) (a : Option Addr) (n c : Nat) (last : Int) (ys : List Int) (w : World) (hs : Sl a n c) (hn : n = bs.length) (hlen : bs.length ≤ 200) (k : Nat) (hk : k = ys.length) (m : Nat) (hm : m ≤ 200) (e : rnds bs last m = ys) (hrow : At w (pt a n) (bc bs)) : Calls Try.prog 50 (List.toArray [.slice a n c, .int .i64 last, .int .i64 (m : Nat)]) w fun e w' =>  ∃ v, e = .returned v ∧ Below w.heap.size w w' ∧ w'.ownsRow w.heap.size 3 1 v k (lock.ic ys) := by
  subst hk
  exact roundsE bs a n c last m ys w (by unfold Fits; omega) hs hn (by omega) e hrow
abbrev St := Nat × List Int
set_option maxHeartbeats 4000000 in
set_option maxRecDepth 100000 in
theorem walk (a : Option Addr) (n c : Nat) (bs : List Bool) (last : Int) (w : World) (hl : Sl a n c ∧ n = bs.length ∧ At w (pt a n) (bs.map Value.bool)) (hi : Fits last) : Calls Try.prog 13 (List.toArray [.slice a n c, .int .i64 last]) w fun e w' =>  e = .returned (.bool true) ∧ Below w.heap.size w w' := by
  obtain ⟨hs, hn, hrow⟩ := hl
  have hn63 := hs.le
  have hul := ups_le bs
  refine calls_of_exec env_ok Try.func13 rfl [] (by kernel_rfl) [rowF (pt a n) (bc bs)] (at1 hrow) ?_
  (conv => arg 5; whnf)
  refine wp_br (fun h => ?_) (fun h => ?_)
  · (conv => arg 5; whnf)
    refine meetc (f := 43) (v := .bool true) rfl (by kernel_rfl) (fun β ρ w' hM' => live w') ?_
    (conv => arg 5; whnf)
    exact wp_back fun β ρ w' hM' => ⟨rfl, hM'.below⟩
  · have hl : bs.length ≤ 200 := by simp at h; omega
    clear h
    have hra := rnds_all bs last (by omega)
    have hol := ord_length bs (frm bs last) (frm_le bs last)
    have hod := ord_nodup bs (frm bs last) (frm_le bs last)
    have hom := fun x (h : x ∈ ord bs (frm bs last)) => (mem_ord (frm_le bs last)).1 h
    have C1 := fun (w : World) hr => countE bs a n c _ w hs hn (by omega) rfl hr
    have R1 := fun (w : World) hr => roundsT bs a n c last _ w hs hn hl (ups bs).length (by rw [List.length_map, hol]) (ups bs).length (by omega) hra hr
    generalize ord bs (frm bs last) = O at *
    generalize (ups bs).length = m at *
    obtain ⟨L, hL⟩ : ∃ L : List Int, O.map (fun x : Nat => (x : Int)) = L := ⟨_, rfl⟩
    rw [hL] at R1
    have hLg : ∀ (k x : Nat), O[k]? = some x → (lock.ic L)[k]? = some (Value.int .i64 (x : Nat)) := fun k x h => by rw [← hL]; simp [lock.ic, h]
    clear hra hL
    (conv => arg 5; whnf)
    refine meetc (f := 44) (v := .int .i64 (m : Nat)) rfl (by kernel_rfl) (fun β ρ w' hM' => C1 w' (hM'.at_ (.head _))) ?_
    (conv => arg 5; whnf)
    refine meetM m (lock.ic L) rfl (by kernel_rfl) (fun β ρ w' hM' => R1 w' (hM'.at_ (.head _))) ?_
    (conv => arg 5; whnf)
    refine wp_br (fun h => by simp at h) (fun _ => ?_)
    (conv => arg 5; whnf)
    refine wp_must ⟨by omega, rfl, by omega, by omega⟩ ?_
    (conv => arg 5; whnf)
    rw [Int.toNat_natCast, lock.reps_ic]; refine loop_rule env_ok [] (by kernel_rfl) (fun j : St => j.1 ≤ m ∧ j.2.length = n ∧ ∀ x, x < n → x ∉ O.take j.1 → j.2[x]? = some 0) (fun j => (⟨[], [some ⟨3, 1, m, lock.ic L⟩, some ⟨3, 1, n, lock.ic j.2⟩], [rowF (pt a n) (bc bs)]⟩, sl 73 [(0, .v (.slice a n c)), (1, .v (.int .i64 last)), (4, .v (.bool false)), (5, .v (.int .i64 (m : Nat))), (6, .r 0), (7, .r 1), (8, .v (.int .i64 (j.1 : Nat)))])) (fun j => m - j.1) (0, List.replicate n 0) ⟨Nat.zero_le _, List.length_replicate, fun x hx _ => by simp [hx]⟩ ⟨by repeat' first | exact trivial | refine ⟨.inl rfl, ?_⟩ | refine ⟨.inr rfl, ?_⟩, ⟨by repeat' first | exact trivial | refine ⟨.inl rfl, ?_⟩ | refine ⟨.inr rfl, ?_⟩, by repeat' first | exact trivial | refine ⟨.inl rfl, ?_⟩ | refine ⟨.inr rfl, ?_⟩, fun _ h => h⟩, rfl⟩ ?_
    rintro ⟨k, t⟩ ⟨hk, ht, hz⟩
    simp only [] at hk ht hz
    (conv => arg 5; whnf)
    refine wp_br (fun g1 => ?_) (fun g1 => ?_)
    · have hlt : k < m := by simp at g1; omega
      clear g1
      obtain ⟨x, hx⟩ : ∃ x, O[k]? = some x := ⟨_, List.getElem?_eq_getElem (by omega)⟩
      obtain ⟨hxl, ox⟩ := hom x (List.mem_of_getElem? hx)
      have q1 := hLg k x hx
      have hny := not_yet hod hx
      have hmo := take_more hx
      have q2 : (lock.ic t)[x]? = some (Value.int .i64 0) := lock.ic_get (hz x (by omega) hny)
      have r1 := bc_at hxl
      rw [ox] at r1
      have hz2 : ∀ y, y < n → y ∉ O.take (k + 1) → (t.set x 1)[y]? = some 0 := fun y hy hn' => by
        rw [hmo, List.mem_append, List.mem_singleton] at hn'
        rw [List.getElem?_set, if_neg (fun e => hn' (.inr e.symm))]
        exact hz y hy (fun h => hn' (.inl h))
      have e3 : spl (lock.ic t) (x * 1) [.int .i64 1] = lock.ic (t.set x 1) := by rw [Nat.mul_one]; exact lock.spl_set t x 1 (by omega)
      (conv => arg 5; whnf)
      refine wp_must ⟨by omega, by show (k : Int) < (m : Int); omega⟩ ?_
      (conv => arg 5; whnf)
      refine ⟨[.int .i64 ((x : Nat))], rfl, fun j u hu => (by cases j with | zero => (simp at hu; subst hu; show (_ : List Value)[k * 1 + 0]? = _; rw [Nat.mul_one, Nat.add_zero]; exact q1) | succ j => simp at hu), ?_⟩
      (conv => arg 5; whnf)
      refine wp_must ⟨by omega, by show (k : Int) < (m : Int); omega⟩ ?_
      (conv => arg 5; whnf)
      refine ⟨[.int .i64 ((x : Nat))], rfl, fun j u hu => (by cases j with | zero => (simp at hu; subst hu; show (_ : List Value)[k * 1 + 0]? = _; rw [Nat.mul_one, Nat.add_zero]; exact q1) | succ j => simp at hu), ?_⟩
      (conv => arg 5; whnf)
      refine wp_g0 (fun _ => ?_) (fun h => by simp at h; omega)
      (conv => arg 5; whnf)
      refine wp_must ⟨by omega, by show (k : Int) < (m : Int); omega⟩ ?_
      (conv => arg 5; whnf)
      refine ⟨[.int .i64 ((x : Nat))], rfl, fun j u hu => (by cases j with | zero => (simp at hu; subst hu; show (_ : List Value)[k * 1 + 0]? = _; rw [Nat.mul_one, Nat.add_zero]; exact q1) | succ j => simp at hu), ?_⟩
      (conv => arg 5; whnf)
      refine wp_must ⟨by omega, by omega, hs.some (show x < n by omega)⟩ ?_
      (conv => arg 5; whnf)
      refine readP (.bool true) rfl (.head _) (show x < n by omega) (hs.some (show x < n by omega)) r1 (j := x) (by simp) ?_
      (conv => arg 5; whnf)
      refine wp_must ⟨by omega, by show (k : Int) < (m : Int); omega⟩ ?_
      (conv => arg 5; whnf)
      refine ⟨[.int .i64 ((x : Nat))], rfl, fun j u hu => (by cases j with | zero => (simp at hu; subst hu; show (_ : List Value)[k * 1 + 0]? = _; rw [Nat.mul_one, Nat.add_zero]; exact q1) | succ j => simp at hu), ?_⟩
      (conv => arg 5; whnf)
      refine wp_must ⟨by omega, by show (x : Int) < (n : Int); omega⟩ ?_
      (conv => arg 5; whnf)
      refine ⟨[.int .i64 (0)], rfl, fun j u hu => (by cases j with | zero => (simp at hu; subst hu; show (_ : List Value)[x * 1 + 0]? = _; rw [Nat.mul_one, Nat.add_zero]; exact q2) | succ j => simp at hu), ?_⟩
      (conv => arg 5; whnf)
      refine wp_must ⟨by omega, by show (k : Int) < (m : Int); omega⟩ ?_
      (conv => arg 5; whnf)
      refine ⟨[.int .i64 ((x : Nat))], rfl, fun j u hu => (by cases j with | zero => (simp at hu; subst hu; show (_ : List Value)[k * 1 + 0]? = _; rw [Nat.mul_one, Nat.add_zero]; exact q1) | succ j => simp at hu), ?_⟩
      (conv => arg 5; whnf)
      refine wp_must ⟨by omega, by show (x : Int) < (n : Int); omega⟩ ?_
      (conv => arg 5; whnf)
      refine wp_must (by rw [lock.ic_length]; show x * 1 + 1 ≤ t.length; omega) ?_
      (conv => arg 5; whnf)
      rw [show ((x : Nat) : Int).toNat = x from Int.toNat_natCast x, e3]; refine wp_must ⟨by omega, by omega⟩ ?_
      (conv => arg 5; whnf)
      refine wp_end ⟨(k + 1, t.set x 1), ⟨hlt, by rw [List.length_set, ht], hz2⟩, ⟨by repeat' first | exact trivial | refine ⟨.inl rfl, ?_⟩ | refine ⟨.inr rfl, ?_⟩, ⟨by repeat' first | exact trivial | refine ⟨.inl rfl, ?_⟩ | refine ⟨.inr rfl, ?_⟩, by repeat' first | exact trivial | refine ⟨.inl rfl, ?_⟩ | refine ⟨.inr rfl, ?_⟩, fun _ h => h⟩, rfl⟩, by show m - (k + 1) < m - k; omega⟩
    · (conv => arg 5; whnf)
      refine meetc (f := 43) (v := .bool true) rfl (by kernel_rfl) (fun β ρ w' hM' => live w') ?_
      (conv => arg 5; whnf)
      exact wp_back fun β ρ w' hM' => ⟨rfl, hM'.below⟩
end Go.Proofs.Ytjeghmlingfnjaa.turnRounds
