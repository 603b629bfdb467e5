/- Layer 10 (turn): the document's answers, by contract. -/
import Derived.Test.YtjeghmlingfnjaaTurnRnd
namespace Go.Proofs.Ytjeghmlingfnjaa.turn
open Go.RowKit Sx
set_option linter.unusedVariables false
set_option linter.unusedSimpArgs false
def bc (bs : List Bool) : List Value := bs.map Value.bool
theorem bc_at {bs : List Bool} {k : Nat} (h : k < bs.length) : (bc bs)[k]? = some (.bool (on bs k)) := by simp [bc, on, h]
theorem lo_le (bs : List Bool) (k : Nat) : (lo bs k).length ≤ k := by
  have := List.length_filter_le (on bs) (List.range k)
  simpa [lo] using this
theorem lo_prefix (bs : List Bool) (k : Nat) : ∀ d, lo bs k <+: lo bs (k + d)
  | 0 => List.prefix_refl _
  | d + 1 => by
    have h := lo_prefix bs k d
    rw [show k + (d + 1) = (k + d) + 1 from rfl, lo_succ]
    split
    · exact h.trans (List.prefix_append _ _)
    · exact h
theorem lo_at {bs : List Bool} {i m : Nat} (h : on bs i = true) (hi : i < m) : (lo bs m)[(lo bs i).length]? = some i := by
  obtain ⟨r, hr⟩ := lo_prefix bs (i + 1) (m - (i + 1))
  rw [show i + 1 + (m - (i + 1)) = m from by omega] at hr
  rw [← hr, lo_succ, if_pos h]
  simp
theorem rem_run (x y : Operand) (m : Int) (k : Nat) (h : 0 ≤ m) (hk : 0 < k) (w : World) : (do eqGuard .rem 3 x y (.int .i64 m) (.int .i64 (k : Int)); pure (Next.value (← binOp .rem 3 (.int .i64 m) (.int .i64 (k : Int)))) : Sem Next).run Try.prog w = .ok (.value (.int .i64 (m % (k : Int)))) w := by
  have h1 : ¬ ((k : Int) = 0) := by omega
  have h2 : Int.tmod m (k : Int) = m % (k : Int) := Int.tmod_eq_emod_of_nonneg h
  have h3 := Int.emod_nonneg m h1
  have h4 := Int.emod_lt_of_pos m (show (0 : Int) < k by omega)
  have h5 : ¬ k = 0 := by omega
  simp [eqGuard, go_sem, h1, h2, h5]

set_option maxHeartbeats 4000000 in
set_option maxRecDepth 100000 in
theorem rcount (bs : List Bool) (a : Option Addr) (n c : Nat) (w : World) (hs : Sl a n c) (hn : n = bs.length) (hrow : At w (pt a n) (bc bs)) (hlen : bs.length ≤ 1000000) : Calls Try.prog 45 (List.toArray [.slice a n c]) w fun e w' =>  e = .returned (.int .i64 ((ups bs).length : Nat)) ∧ Below w.heap.size w w' := by
  have hn63 := hs.le
  refine calls_of_exec env_ok Try.func45 rfl [] (by kernel_rfl) [rowF (pt a n) (bc bs)] (at1 hrow) ?_
  (conv => arg 5; whnf)
  refine loop_rule env_ok [] (by kernel_rfl) (fun k : Nat => k ≤ n) (fun k => (⟨[], [], [rowF (pt a n) (bc bs)]⟩, sl 18 [(0, .v (.slice a n c)), (2, .v (.int .i64 0)), (3, .v (.int .i64 ((lo bs k).length : Nat))), (4, .v (.int .i64 (k : Nat)))])) (fun k => n - k) 0 (Nat.zero_le _) ⟨by repeat' first | exact trivial | refine ⟨.inl rfl, ?_⟩ | refine ⟨.inr rfl, ?_⟩, ⟨by repeat' first | exact trivial | refine ⟨.inl rfl, ?_⟩ | refine ⟨.inr rfl, ?_⟩, by repeat' first | exact trivial | refine ⟨.inl rfl, ?_⟩ | refine ⟨.inr rfl, ?_⟩, fun _ h => h⟩, rfl⟩ ?_
  intro k hk
  have hll := lo_le bs k
  have hsu := lo_succ bs k
  (conv => arg 5; whnf)
  refine wp_br (fun g1 => ?_) (fun g1 => ?_)
  · have hlt : k < n := by simp at g1; omega
    (conv => arg 5; whnf)
    refine wp_must ⟨by omega, by omega, hs.some hlt⟩ ?_
    (conv => arg 5; whnf)
    refine readP (.bool (on bs k)) rfl (.head _) (show k < n by omega) (hs.some (show k < n by omega)) (bc_at (show k < bs.length by omega)) (j := k) (by simp) ?_
    (conv => arg 5; whnf)
    refine wp_br (fun g2 => ?_) (fun g2 => ?_)
    · rw [if_pos g2] at hsu
      have hl2 : (((lo bs k).length : Nat) : Int) + 1 = ((lo bs (k + 1)).length : Nat) := by rw [hsu]; simp
      (conv => arg 5; whnf)
      refine wp_must ⟨by omega, by omega⟩ ?_
      (conv => arg 5; whnf)
      rw [hl2]; refine wp_must ⟨by omega, by omega⟩ ?_
      (conv => arg 5; whnf)
      refine wp_end ⟨k + 1, hlt, ⟨by repeat' first | exact trivial | refine ⟨.inl rfl, ?_⟩ | refine ⟨.inr rfl, ?_⟩, ⟨by repeat' first | exact trivial | refine ⟨.inl rfl, ?_⟩ | refine ⟨.inr rfl, ?_⟩, by repeat' first | exact trivial | refine ⟨.inl rfl, ?_⟩ | refine ⟨.inr rfl, ?_⟩, fun _ h => h⟩, rfl⟩, by show n - (k + 1) < n - k; omega⟩
    · rw [if_neg (by rw [g2]; simp)] at hsu
      (conv => arg 5; whnf)
      refine wp_must ⟨by omega, by omega⟩ ?_
      (conv => arg 5; whnf)
      rw [← hsu]; refine wp_end ⟨k + 1, hlt, ⟨by repeat' first | exact trivial | refine ⟨.inl rfl, ?_⟩ | refine ⟨.inr rfl, ?_⟩, ⟨by repeat' first | exact trivial | refine ⟨.inl rfl, ?_⟩ | refine ⟨.inr rfl, ?_⟩, by repeat' first | exact trivial | refine ⟨.inl rfl, ?_⟩ | refine ⟨.inr rfl, ?_⟩, fun _ h => h⟩, rfl⟩, by show n - (k + 1) < n - k; omega⟩
  · have hkn : k = bs.length := by simp at g1; omega
    subst hkn
    (conv => arg 5; whnf)
    exact wp_back fun β ρ w' hM' => ⟨rfl, hM'.below⟩

set_option maxHeartbeats 4000000 in
set_option maxRecDepth 100000 in
theorem rpick (bs : List Bool) (a : Option Addr) (n c : Nat) (m : Int) (w : World) (hm : Fits m) (hs : Sl a n c) (hn : n = bs.length) (hrow : At w (pt a n) (bc bs)) (hlen : bs.length ≤ 1000000) : Calls Try.prog 47 (List.toArray [.slice a n c, .int .i64 m]) w fun e w' =>  e = .returned (.int .i64 (pck bs m)) ∧ Below w.heap.size w w' := by
  have hn63 := hs.le
  have hul := ups_le bs
  refine calls_of_exec env_ok Try.func47 rfl [] (by kernel_rfl) [rowF (pt a n) (bc bs)] (at1 hrow) ?_
  (conv => arg 5; whnf)
  refine meetc rfl (by kernel_rfl) (fun β ρ w' hM' => rcount bs a n c w' hs hn (hM'.at_ List.mem_cons_self) hlen) ?_
  (conv => arg 5; whnf)
  refine wp_g0 (fun g1 => ?_) (fun g1 => ?_)
  · have hz : ¬ (ups bs).length = 0 := by simpa using g1
    clear g1
    (conv => arg 5; whnf)
    refine wp_br (fun g2 => ?_) (fun g2 => ?_)
    · have hpv : pck bs m = -1 := if_pos (by simpa using g2)
      (conv => arg 5; whnf)
      exact wp_back fun β ρ w' hM' => ⟨retI hpv.symm, hM'.below⟩
    · have hm0 : 0 ≤ m := by simp at g2; omega
      clear g2
      obtain ⟨q, hqe, hqn, hqm⟩ : ∃ q : Nat, m % (((ups bs).length : Nat) : Int) = (q : Int) ∧ q < (ups bs).length ∧ q = m.toNat % (ups bs).length := by
        have e : m % (((ups bs).length : Nat) : Int) = ((m.toNat % (ups bs).length : Nat) : Int) := by
          rw [Int.natCast_emod]
          congr 1
          omega
        exact ⟨_, e, Nat.mod_lt _ (by omega), rfl⟩
      have hpv : pck bs m = oi (ups bs)[q]? := by rw [hqm]; exact if_neg (by omega)
      clear hqm
      (conv => arg 5; whnf)
      refine wp_prim (.int .i64 (q : Nat)) (fun w => (rem_run _ _ m _ hm0 (by omega) w).trans (by rw [hqe])) ?_
      (conv => arg 5; whnf)
      refine loop_rule env_ok [] (by kernel_rfl) (fun k : Nat => k ≤ n ∧ (lo bs k).length ≤ q) (fun k => (⟨[], [], [rowF (pt a n) (bc bs)]⟩, sl 40 [(0, .v (.slice a n c)), (1, .v (.int .i64 m)), (4, .v (.int .i64 0)), (5, .v (.int .i64 ((ups bs).length : Nat))), (6, .v (.int .i64 (q - (lo bs k).length : Nat))), (7, .v (.int .i64 (k : Nat)))])) (fun k => n - k) 0 ⟨Nat.zero_le _, Nat.zero_le _⟩ ⟨by repeat' first | exact trivial | refine ⟨.inl rfl, ?_⟩ | refine ⟨.inr rfl, ?_⟩, ⟨by repeat' first | exact trivial | refine ⟨.inl rfl, ?_⟩ | refine ⟨.inr rfl, ?_⟩, by repeat' first | exact trivial | refine ⟨.inl rfl, ?_⟩ | refine ⟨.inr rfl, ?_⟩, fun _ h => h⟩, rfl⟩ ?_
      rintro k ⟨hk, hlq⟩
      have hsu := lo_succ bs k
      (conv => arg 5; whnf)
      refine wp_br (fun g3 => ?_) (fun g3 => ?_)
      · have hlt : k < n := by simp at g3; omega
        (conv => arg 5; whnf)
        refine wp_must ⟨by omega, by omega, hs.some hlt⟩ ?_
        (conv => arg 5; whnf)
        refine readP (.bool (on bs k)) rfl (.head _) (show k < n by omega) (hs.some (show k < n by omega)) (bc_at (show k < bs.length by omega)) (j := k) (by simp) ?_
        (conv => arg 5; whnf)
        refine wp_g1 (fun g4 => ?_) (fun g4 => ?_)
        · rw [if_pos g4] at hsu
          have hat := lo_at g4 (show k < bs.length by omega)
          (conv => arg 5; whnf)
          refine wp_br (fun g5 => ?_) (fun g5 => ?_)
          · have hq : (lo bs k).length = q := by simp at g5; omega
            rw [hq] at hat
            rw [show (ups bs)[q]? = some k from hat] at hpv
            (conv => arg 5; whnf)
            exact wp_back fun β ρ w' hM' => ⟨retI hpv.symm, hM'.below⟩
          · have hq : (lo bs k).length < q := by simp at g5; omega
            have hsu2 : (lo bs (k + 1)).length = (lo bs k).length + 1 := by rw [hsu]; simp
            have hsub : ((q - (lo bs k).length : Nat) : Int) - 1 = ((q - (lo bs (k + 1)).length : Nat) : Int) := by omega
            (conv => arg 5; whnf)
            refine wp_must ⟨by omega, by omega, hs.some hlt⟩ ?_
            (conv => arg 5; whnf)
            refine readP (.bool (on bs k)) rfl (.head _) (show k < n by omega) (hs.some (show k < n by omega)) (bc_at (show k < bs.length by omega)) (j := k) (by simp) ?_
            (conv => arg 5; whnf)
            refine wp_yes g4 ?_
            (conv => arg 5; whnf)
            refine wp_must ⟨by omega, by omega⟩ ?_
            (conv => arg 5; whnf)
            rw [hsub]; refine wp_must ⟨by omega, by omega⟩ ?_
            (conv => arg 5; whnf)
            refine wp_end ⟨k + 1, ⟨hlt, by omega⟩, ⟨by repeat' first | exact trivial | refine ⟨.inl rfl, ?_⟩ | refine ⟨.inr rfl, ?_⟩, ⟨by repeat' first | exact trivial | refine ⟨.inl rfl, ?_⟩ | refine ⟨.inr rfl, ?_⟩, by repeat' first | exact trivial | refine ⟨.inl rfl, ?_⟩ | refine ⟨.inr rfl, ?_⟩, fun _ h => h⟩, rfl⟩, by show n - (k + 1) < n - k; omega⟩
        · rw [if_neg (by rw [g4]; simp)] at hsu
          (conv => arg 5; whnf)
          refine wp_must ⟨by omega, by omega, hs.some hlt⟩ ?_
          (conv => arg 5; whnf)
          refine readP (.bool (on bs k)) rfl (.head _) (show k < n by omega) (hs.some (show k < n by omega)) (bc_at (show k < bs.length by omega)) (j := k) (by simp) ?_
          (conv => arg 5; whnf)
          refine wp_no g4 ?_
          (conv => arg 5; whnf)
          refine wp_must ⟨by omega, by omega⟩ ?_
          (conv => arg 5; whnf)
          rw [← hsu]; refine wp_end ⟨k + 1, ⟨hlt, by rw [hsu]; exact hlq⟩, ⟨by repeat' first | exact trivial | refine ⟨.inl rfl, ?_⟩ | refine ⟨.inr rfl, ?_⟩, ⟨by repeat' first | exact trivial | refine ⟨.inl rfl, ?_⟩ | refine ⟨.inr rfl, ?_⟩, by repeat' first | exact trivial | refine ⟨.inl rfl, ?_⟩ | refine ⟨.inr rfl, ?_⟩, fun _ h => h⟩, rfl⟩, by show n - (k + 1) < n - k; omega⟩
      · exfalso
        have hkn : k = bs.length := by simp at g3; omega
        rw [hkn] at hlq
        have : (ups bs).length ≤ q := hlq
        omega
  · have hz : (ups bs).length = 0 := by simpa using g1
    have hpv : pck bs m = -1 := by
      unfold pck
      rw [List.eq_nil_of_length_eq_zero hz]
      split <;> rfl
    (conv => arg 5; whnf)
    exact wp_back fun β ρ w' hM' => ⟨retI hpv.symm, hM'.below⟩

set_option maxHeartbeats 4000000 in
set_option maxRecDepth 100000 in
theorem rnext (bs : List Bool) (a : Option Addr) (n c : Nat) (last : Int) (w : World) (hs : Sl a n c) (hn : n = bs.length) (hrow : At w (pt a n) (bc bs)) (hlen : bs.length ≤ 1000000) : Calls Try.prog 49 (List.toArray [.slice a n c, .int .i64 last]) w fun e w' =>  e = .returned (.int .i64 (nxt bs last)) ∧ Below w.heap.size w w' := by
  have hn63 := hs.le
  have hfl := frm_le bs last
  have hnx : nxt bs last = oi (ord bs (frm bs last)).head? := rfl
  refine calls_of_exec env_ok Try.func49 rfl [] (by kernel_rfl) [rowF (pt a n) (bc bs)] (at1 hrow) ?_
  (conv => arg 5; whnf)
  refine wp_g1 (fun h => ?_) (fun h => ?_)
  · (conv => arg 5; whnf)
    refine wp_br (fun h1 => ?_) (fun h1 => ?_)
    · have hfr : ((frm bs last : Nat) : Int) = last + 1 := by
        unfold frm
        rw [if_pos (by simp at h h1; omega)]
        simp at h
        omega
      generalize frm bs last = f at *
      simp at h h1
      (conv => arg 5; whnf)
      refine wp_must ⟨by omega, by omega⟩ ?_
      (conv => arg 5; whnf)
      rw [← hfr]
      (conv => arg 5; whnf)
      refine loop_rule env_ok [] (by kernel_rfl) (fun k : Nat => k ≤ n ∧ hi bs k = hi bs f) (fun k => (⟨[], [], [rowF (pt a n) (bc bs)]⟩, sl 40 [(0, .v (.slice a n c)), (1, .v (.int .i64 last)), (4, .v (.int .i64 0)), (5, .v (.int .i64 (f : Nat))), (6, .v (.int .i64 (k : Nat)))])) (fun k => n - k) f ⟨by omega, rfl⟩ ⟨by repeat' first | exact trivial | refine ⟨.inl rfl, ?_⟩ | refine ⟨.inr rfl, ?_⟩, ⟨by repeat' first | exact trivial | refine ⟨.inl rfl, ?_⟩ | refine ⟨.inr rfl, ?_⟩, by repeat' first | exact trivial | refine ⟨.inl rfl, ?_⟩ | refine ⟨.inr rfl, ?_⟩, fun _ h => h⟩, rfl⟩ ?_
      rintro k ⟨hk, hh⟩
      (conv => arg 5; whnf)
      refine wp_br (fun g1 => ?_) (fun g1 => ?_)
      · have hlt : k < n := by simp at g1; omega
        have hha := hi_at bs k (by omega)
        (conv => arg 5; whnf)
        refine wp_must ⟨by omega, by omega, hs.some hlt⟩ ?_
        (conv => arg 5; whnf)
        refine readP (.bool (on bs k)) rfl (.head _) (show k < n by omega) (hs.some (show k < n by omega)) (bc_at (show k < bs.length by omega)) (j := k) (by simp) ?_
        (conv => arg 5; whnf)
        refine wp_br (fun g2 => ?_) (fun g2 => ?_)
        · rw [if_pos g2, hh] at hha
          have hv : nxt bs last = (k : Int) := by rw [hnx]; unfold ord; rw [hha]; rfl
          (conv => arg 5; whnf)
          exact wp_back fun β ρ w' hM' => ⟨retI hv.symm, hM'.below⟩
        · rw [if_neg (by rw [g2]; simp), hh] at hha
          (conv => arg 5; whnf)
          refine wp_must ⟨by omega, by omega⟩ ?_
          (conv => arg 5; whnf)
          refine wp_end ⟨k + 1, ⟨hlt, hha.symm⟩, ⟨by repeat' first | exact trivial | refine ⟨.inl rfl, ?_⟩ | refine ⟨.inr rfl, ?_⟩, ⟨by repeat' first | exact trivial | refine ⟨.inl rfl, ?_⟩ | refine ⟨.inr rfl, ?_⟩, by repeat' first | exact trivial | refine ⟨.inl rfl, ?_⟩ | refine ⟨.inr rfl, ?_⟩, fun _ h => h⟩, rfl⟩, by show n - (k + 1) < n - k; omega⟩
      · have hkn : k = bs.length := by simp at g1; omega
        rw [hkn, hi_end bs _ (Nat.le_refl _)] at hh
        clear hk hkn g1
        (conv => arg 5; whnf)
        refine loop_rule env_ok [] (by kernel_rfl) (fun k : Nat => k ≤ f ∧ lo bs k = []) (fun k => (⟨[], [], [rowF (pt a n) (bc bs)]⟩, sl 40 [(0, .v (.slice a n c)), (1, .v (.int .i64 last)), (4, .v (.int .i64 0)), (5, .v (.int .i64 (f : Nat))), (7, .v (.int .i64 (k : Nat)))])) (fun k => f - k) 0 ⟨Nat.zero_le _, rfl⟩ ⟨by repeat' first | exact trivial | refine ⟨.inl rfl, ?_⟩ | refine ⟨.inr rfl, ?_⟩, ⟨by repeat' first | exact trivial | refine ⟨.inl rfl, ?_⟩ | refine ⟨.inr rfl, ?_⟩, by repeat' first | exact trivial | refine ⟨.inl rfl, ?_⟩ | refine ⟨.inr rfl, ?_⟩, fun _ h => h⟩, rfl⟩ ?_
        rintro k ⟨hk, hl⟩
        (conv => arg 5; whnf)
        refine wp_br (fun g1 => ?_) (fun g1 => ?_)
        · have hlt : k < f := by simp at g1; omega
          have hsu := lo_succ bs k
          (conv => arg 5; whnf)
          refine wp_must ⟨by omega, by omega, hs.some (show k < n by omega)⟩ ?_
          (conv => arg 5; whnf)
          refine readP (.bool (on bs k)) rfl (.head _) (show k < n by omega) (hs.some (show k < n by omega)) (bc_at (show k < bs.length by omega)) (j := k) (by simp) ?_
          (conv => arg 5; whnf)
          refine wp_br (fun g2 => ?_) (fun g2 => ?_)
          · have hat := lo_at g2 hlt
            rw [hl] at hat
            have hv : nxt bs last = (k : Int) := by rw [hnx]; unfold ord; rw [← hh, List.nil_append, List.head?_eq_getElem?]; exact congrArg oi hat
            (conv => arg 5; whnf)
            exact wp_back fun β ρ w' hM' => ⟨retI hv.symm, hM'.below⟩
          · rw [if_neg (by rw [g2]; simp), hl] at hsu
            (conv => arg 5; whnf)
            refine wp_must ⟨by omega, by omega⟩ ?_
            (conv => arg 5; whnf)
            refine wp_end ⟨k + 1, ⟨hlt, hsu⟩, ⟨by repeat' first | exact trivial | refine ⟨.inl rfl, ?_⟩ | refine ⟨.inr rfl, ?_⟩, ⟨by repeat' first | exact trivial | refine ⟨.inl rfl, ?_⟩ | refine ⟨.inr rfl, ?_⟩, by repeat' first | exact trivial | refine ⟨.inl rfl, ?_⟩ | refine ⟨.inr rfl, ?_⟩, fun _ h => h⟩, rfl⟩, by show f - (k + 1) < f - k; omega⟩
        · have hkf : k = f := by simp at g1; omega
          subst hkf
          have hv : nxt bs last = -1 := by rw [hnx]; unfold ord; rw [← hh, hl]; rfl
          (conv => arg 5; whnf)
          exact wp_back fun β ρ w' hM' => ⟨retI hv.symm, hM'.below⟩
    · have hfr : frm bs last = 0 := by
        unfold frm
        rw [if_neg (by simp at h1; omega)]
      generalize frm bs last = f at *
      subst hfr
      have hz : (0 : Int) = ((0 : Nat) : Int) := rfl
      (conv => arg 5; whnf)
      refine loop_rule env_ok [] (by kernel_rfl) (fun k : Nat => k ≤ n ∧ hi bs k = hi bs 0) (fun k => (⟨[], [], [rowF (pt a n) (bc bs)]⟩, sl 40 [(0, .v (.slice a n c)), (1, .v (.int .i64 last)), (4, .v (.int .i64 0)), (5, .v (.int .i64 (0 : Nat))), (6, .v (.int .i64 (k : Nat)))])) (fun k => n - k) 0 ⟨by omega, rfl⟩ ⟨by repeat' first | exact trivial | refine ⟨.inl rfl, ?_⟩ | refine ⟨.inr rfl, ?_⟩, ⟨by repeat' first | exact trivial | refine ⟨.inl rfl, ?_⟩ | refine ⟨.inr rfl, ?_⟩, by repeat' first | exact trivial | refine ⟨.inl rfl, ?_⟩ | refine ⟨.inr rfl, ?_⟩, fun _ h => h⟩, rfl⟩ ?_
      rintro k ⟨hk, hh⟩
      (conv => arg 5; whnf)
      refine wp_br (fun g1 => ?_) (fun g1 => ?_)
      · have hlt : k < n := by simp at g1; omega
        have hha := hi_at bs k (by omega)
        (conv => arg 5; whnf)
        refine wp_must ⟨by omega, by omega, hs.some hlt⟩ ?_
        (conv => arg 5; whnf)
        refine readP (.bool (on bs k)) rfl (.head _) (show k < n by omega) (hs.some (show k < n by omega)) (bc_at (show k < bs.length by omega)) (j := k) (by simp) ?_
        (conv => arg 5; whnf)
        refine wp_br (fun g2 => ?_) (fun g2 => ?_)
        · rw [if_pos g2, hh] at hha
          have hv : nxt bs last = (k : Int) := by rw [hnx]; unfold ord; rw [hha]; rfl
          (conv => arg 5; whnf)
          exact wp_back fun β ρ w' hM' => ⟨retI hv.symm, hM'.below⟩
        · rw [if_neg (by rw [g2]; simp), hh] at hha
          (conv => arg 5; whnf)
          refine wp_must ⟨by omega, by omega⟩ ?_
          (conv => arg 5; whnf)
          refine wp_end ⟨k + 1, ⟨hlt, hha.symm⟩, ⟨by repeat' first | exact trivial | refine ⟨.inl rfl, ?_⟩ | refine ⟨.inr rfl, ?_⟩, ⟨by repeat' first | exact trivial | refine ⟨.inl rfl, ?_⟩ | refine ⟨.inr rfl, ?_⟩, by repeat' first | exact trivial | refine ⟨.inl rfl, ?_⟩ | refine ⟨.inr rfl, ?_⟩, fun _ h => h⟩, rfl⟩, by show n - (k + 1) < n - k; omega⟩
      · have hkn : k = bs.length := by simp at g1; omega
        rw [hkn, hi_end bs _ (Nat.le_refl _)] at hh
        clear hk hkn g1
        (conv => arg 5; whnf)
        refine loop_rule env_ok [] (by kernel_rfl) (fun k : Nat => k ≤ 0 ∧ lo bs k = []) (fun k => (⟨[], [], [rowF (pt a n) (bc bs)]⟩, sl 40 [(0, .v (.slice a n c)), (1, .v (.int .i64 last)), (4, .v (.int .i64 0)), (5, .v (.int .i64 (0 : Nat))), (7, .v (.int .i64 (k : Nat)))])) (fun k => 0 - k) 0 ⟨Nat.zero_le _, rfl⟩ ⟨by repeat' first | exact trivial | refine ⟨.inl rfl, ?_⟩ | refine ⟨.inr rfl, ?_⟩, ⟨by repeat' first | exact trivial | refine ⟨.inl rfl, ?_⟩ | refine ⟨.inr rfl, ?_⟩, by repeat' first | exact trivial | refine ⟨.inl rfl, ?_⟩ | refine ⟨.inr rfl, ?_⟩, fun _ h => h⟩, rfl⟩ ?_
        rintro k ⟨hk, hl⟩
        have hv : nxt bs last = -1 := by rw [hnx]; unfold ord; rw [← hh]; rfl
        (conv => arg 5; whnf)
        exact wp_back fun β ρ w' hM' => ⟨retI hv.symm, hM'.below⟩
  · have hfr : frm bs last = 0 := by
      unfold frm
      rw [if_neg (by simp at h; omega)]
    generalize frm bs last = f at *
    subst hfr
    (conv => arg 5; whnf)
    refine loop_rule env_ok [] (by kernel_rfl) (fun k : Nat => k ≤ n ∧ hi bs k = hi bs 0) (fun k => (⟨[], [], [rowF (pt a n) (bc bs)]⟩, sl 40 [(0, .v (.slice a n c)), (1, .v (.int .i64 last)), (4, .v (.int .i64 0)), (5, .v (.int .i64 (0 : Nat))), (6, .v (.int .i64 (k : Nat)))])) (fun k => n - k) 0 ⟨by omega, rfl⟩ ⟨by repeat' first | exact trivial | refine ⟨.inl rfl, ?_⟩ | refine ⟨.inr rfl, ?_⟩, ⟨by repeat' first | exact trivial | refine ⟨.inl rfl, ?_⟩ | refine ⟨.inr rfl, ?_⟩, by repeat' first | exact trivial | refine ⟨.inl rfl, ?_⟩ | refine ⟨.inr rfl, ?_⟩, fun _ h => h⟩, rfl⟩ ?_
    rintro k ⟨hk, hh⟩
    (conv => arg 5; whnf)
    refine wp_br (fun g1 => ?_) (fun g1 => ?_)
    · have hlt : k < n := by simp at g1; omega
      have hha := hi_at bs k (by omega)
      (conv => arg 5; whnf)
      refine wp_must ⟨by omega, by omega, hs.some hlt⟩ ?_
      (conv => arg 5; whnf)
      refine readP (.bool (on bs k)) rfl (.head _) (show k < n by omega) (hs.some (show k < n by omega)) (bc_at (show k < bs.length by omega)) (j := k) (by simp) ?_
      (conv => arg 5; whnf)
      refine wp_br (fun g2 => ?_) (fun g2 => ?_)
      · rw [if_pos g2, hh] at hha
        have hv : nxt bs last = (k : Int) := by rw [hnx]; unfold ord; rw [hha]; rfl
        (conv => arg 5; whnf)
        exact wp_back fun β ρ w' hM' => ⟨retI hv.symm, hM'.below⟩
      · rw [if_neg (by rw [g2]; simp), hh] at hha
        (conv => arg 5; whnf)
        refine wp_must ⟨by omega, by omega⟩ ?_
        (conv => arg 5; whnf)
        refine wp_end ⟨k + 1, ⟨hlt, hha.symm⟩, ⟨by repeat' first | exact trivial | refine ⟨.inl rfl, ?_⟩ | refine ⟨.inr rfl, ?_⟩, ⟨by repeat' first | exact trivial | refine ⟨.inl rfl, ?_⟩ | refine ⟨.inr rfl, ?_⟩, by repeat' first | exact trivial | refine ⟨.inl rfl, ?_⟩ | refine ⟨.inr rfl, ?_⟩, fun _ h => h⟩, rfl⟩, by show n - (k + 1) < n - k; omega⟩
    · have hkn : k = bs.length := by simp at g1; omega
      rw [hkn, hi_end bs _ (Nat.le_refl _)] at hh
      clear hk hkn g1
      (conv => arg 5; whnf)
      refine loop_rule env_ok [] (by kernel_rfl) (fun k : Nat => k ≤ 0 ∧ lo bs k = []) (fun k => (⟨[], [], [rowF (pt a n) (bc bs)]⟩, sl 40 [(0, .v (.slice a n c)), (1, .v (.int .i64 last)), (4, .v (.int .i64 0)), (5, .v (.int .i64 (0 : Nat))), (7, .v (.int .i64 (k : Nat)))])) (fun k => 0 - k) 0 ⟨Nat.zero_le _, rfl⟩ ⟨by repeat' first | exact trivial | refine ⟨.inl rfl, ?_⟩ | refine ⟨.inr rfl, ?_⟩, ⟨by repeat' first | exact trivial | refine ⟨.inl rfl, ?_⟩ | refine ⟨.inr rfl, ?_⟩, by repeat' first | exact trivial | refine ⟨.inl rfl, ?_⟩ | refine ⟨.inr rfl, ?_⟩, fun _ h => h⟩, rfl⟩ ?_
      rintro k ⟨hk, hl⟩
      have hv : nxt bs last = -1 := by rw [hnx]; unfold ord; rw [← hh]; rfl
      (conv => arg 5; whnf)
      exact wp_back fun β ρ w' hM' => ⟨retI hv.symm, hM'.below⟩

/-- The first k turns. -/
def outV (bs : List Bool) (last : Int) (k : Nat) : List Int := (List.range k).map fun j => oi (ord bs (frm bs last))[j % (ups bs).length]?
/-- The one told last, behind k turns. -/
def lastV (bs : List Bool) (last : Int) : Nat → Int
  | 0 => last
  | k + 1 => oi (ord bs (frm bs last))[k % (ups bs).length]?
theorem outV_succ (bs : List Bool) (last : Int) (k : Nat) : outV bs last (k + 1) = outV bs last k ++ [lastV bs last (k + 1)] := by simp [outV, List.range_succ, lastV]
theorem nxt_none {bs : List Bool} {last : Int} (h : ups bs = []) : nxt bs last = -1 := by
  unfold nxt
  have := ord_length bs (frm bs last) (frm_le bs last)
  rw [h] at this
  rw [List.eq_nil_of_length_eq_zero this]
  rfl
theorem nxt_lastV {bs : List Bool} {last : Int} (h : ups bs ≠ []) (k : Nat) : nxt bs (lastV bs last k) = lastV bs last (k + 1) ∧ 0 ≤ lastV bs last (k + 1) := by
  have hp : 0 < (ups bs).length := List.length_pos_iff.2 h
  have hl := ord_length bs (frm bs last) (frm_le bs last)
  have get : ∀ j, ∃ x : Nat, (ord bs (frm bs last))[j % (ups bs).length]? = some x := fun j => ⟨_, List.getElem?_eq_getElem (by rw [hl]; exact Nat.mod_lt _ hp)⟩
  refine ⟨?_, ?_⟩
  · cases k with
    | zero =>
      show nxt bs last = oi (ord bs (frm bs last))[0 % (ups bs).length]?
      rw [Nat.zero_mod, ← List.head?_eq_getElem?]
      rfl
    | succ k =>
      obtain ⟨x, hx⟩ := get k
      show nxt bs (oi (ord bs (frm bs last))[k % (ups bs).length]?) = oi (ord bs (frm bs last))[(k + 1) % (ups bs).length]?
      have h1 := nxt_ord (frm_le bs last) hx
      rw [hx]
      show nxt bs (x : Int) = _
      rw [h1, Nat.mod_add_mod]
  · obtain ⟨x, hx⟩ := get k
    show 0 ≤ oi (ord bs (frm bs last))[k % (ups bs).length]?
    rw [hx]
    exact Int.natCast_nonneg x
theorem rnds_outV {bs : List Bool} {last m : Int} (h : ups bs ≠ []) : rnds bs last m = outV bs last (min m 1000).toNat := if_neg h

set_option maxHeartbeats 4000000 in
set_option maxRecDepth 100000 in
theorem rrounds (bs : List Bool) (a : Option Addr) (n c : Nat) (last m : Int) (w : World) (hm : Fits m) (hs : Sl a n c) (hn : n = bs.length) (hrow : At w (pt a n) (bc bs)) (hlen : bs.length ≤ 1000000) : Calls Try.prog 51 (List.toArray [.slice a n c, .int .i64 last, .int .i64 m]) w fun e w' => ∃ i : One, Sl i.1 (rnds bs last m).length i.2 ∧ Gives w w' e (.slice i.1 (rnds bs last m).length i.2) [rowF (pt i.1 (rnds bs last m).length) (ic (rnds bs last m))] := by
  have hn63 := hs.le
  have hkall : ∀ k : Nat, k = (min m 1000).toNat → (ups bs = [] → k = 0) → rnds bs last m = outV bs last k := by
    intro k hk hz
    by_cases hu : ups bs = []
    · rw [hz hu]
      exact if_pos hu
    · rw [rnds_outV hu, hk]
  refine calls_of_exec env_ok Try.func51 rfl [] (by kernel_rfl) [rowF (pt a n) (bc bs)] (at1 hrow) ?_
  (conv => arg 5; whnf)
  refine loop_nil 7 3 1 rfl ?_
  (conv => arg 5; whnf)
  refine loop_rule env_ok [] (by kernel_rfl) (fun k : Nat => k ≤ (min m 1000).toNat ∧ (ups bs = [] → k = 0)) (fun k => (⟨[], [some ⟨3, 1, k, ic (outV bs last k)⟩], [rowF (pt a n) (bc bs)]⟩, sl 28 [(0, .v (.slice a n c)), (1, .v (.int .i64 (lastV bs last k))), (2, .v (.int .i64 m)), (6, .v (.slice none 0 0)), (7, .r 0), (8, .v (.int .i64 (k : Nat)))])) (fun k => 1000 - k) 0 ⟨Nat.zero_le _, fun _ => rfl⟩ ⟨by repeat' first | exact trivial | refine ⟨.inl rfl, ?_⟩ | refine ⟨.inr rfl, ?_⟩, ⟨by repeat' first | exact trivial | refine ⟨.inl rfl, ?_⟩ | refine ⟨.inr rfl, ?_⟩, by repeat' first | exact trivial | refine ⟨.inl rfl, ?_⟩ | refine ⟨.inr rfl, ?_⟩, fun _ h => h⟩, rfl⟩ ?_
  rintro k ⟨hk, hz⟩
  have hl3 : (outV bs last k).length = k := by simp [outV]
  (conv => arg 5; whnf)
  refine wp_g1 (fun g1 => ?_) (fun g1 => ?_)
  · have hkm : (k : Int) < m := by simpa using g1
    clear g1
    (conv => arg 5; whnf)
    refine wp_br (fun g2 => ?_) (fun g2 => ?_)
    · have hk1 : k < 1000 := by simp at g2; omega
      clear g2
      by_cases hu : ups bs = []
      · have hk0 := hz hu
        have hnv : nxt bs (lastV bs last k) = -1 := nxt_none hu
        have hfin : rnds bs last m = outV bs last k := by rw [hk0]; exact if_pos hu
        have HN := fun w hr => rnext bs a n c (lastV bs last k) w hs hn hr hlen
        rw [hnv] at HN
        (conv => arg 5; whnf)
        refine meetc (v := .int .i64 (-1)) rfl (by kernel_rfl) (fun β ρ w' hM' => HN w' (hM'.at_ List.mem_cons_self)) ?_
        rw [hfin, hl3]
        (conv => arg 5; whnf)
        refine wp_share fun a1 c1 hs1 hf1 => ?_
        (conv => arg 5; whnf)
        exact wp_back fun β ρ w' hM' => ⟨(a1, c1), hs1, rfl, hM'.below, give1 _ hM' List.mem_cons_self hf1⟩
      · obtain ⟨hnv, hpos⟩ := nxt_lastV (last := last) hu k
        have HN := fun w hr => rnext bs a n c (lastV bs last k) w hs hn hr hlen
        rw [hnv] at HN
        have hou := outV_succ bs last k
        (conv => arg 5; whnf)
        refine meetc (v := .int .i64 (lastV bs last (k + 1))) rfl (by kernel_rfl) (fun β ρ w' hM' => HN w' (hM'.at_ List.mem_cons_self)) ?_
        (conv => arg 5; whnf)
        refine wp_br (fun h => absurd h (by simp; omega)) (fun _ => ?_)
        (conv => arg 5; whnf)
        refine wp_must ⟨by show k + 1 ≤ maxLen; unfold maxLen; omega, by show (k + 1) * 8 ≤ 140737488355328; omega⟩ ?_
        (conv => arg 5; whnf)
        refine wp_must ⟨by omega, by omega⟩ ?_
        have e3 : ic (outV bs last k) ++ [.int .i64 (lastV bs last (k + 1))] = ic (outV bs last (k + 1)) := by rw [hou]; simp [ic]
        (conv => arg 5; whnf)
        rw [e3]; refine wp_end ⟨k + 1, ⟨by omega, fun h => absurd h hu⟩, ⟨by repeat' first | exact trivial | refine ⟨.inl rfl, ?_⟩ | refine ⟨.inr rfl, ?_⟩, ⟨by repeat' first | exact trivial | refine ⟨.inl rfl, ?_⟩ | refine ⟨.inr rfl, ?_⟩, by repeat' first | exact trivial | refine ⟨.inl rfl, ?_⟩ | refine ⟨.inr rfl, ?_⟩, fun _ h => h⟩, rfl⟩, by show 1000 - (k + 1) < 1000 - k; omega⟩
    · have hk1 : 1000 ≤ k := by simp at g2; omega
      clear g2
      have hfin := hkall k (by omega) hz
      rw [hfin, hl3]
      (conv => arg 5; whnf)
      refine wp_share fun a1 c1 hs1 hf1 => ?_
      (conv => arg 5; whnf)
      exact wp_back fun β ρ w' hM' => ⟨(a1, c1), hs1, rfl, hM'.below, give1 _ hM' List.mem_cons_self hf1⟩
  · have hkm : m ≤ (k : Int) := by simpa using g1
    clear g1
    have hfin := hkall k (by omega) hz
    rw [hfin, hl3]
    (conv => arg 5; whnf)
    refine wp_share fun a1 c1 hs1 hf1 => ?_
    (conv => arg 5; whnf)
    exact wp_back fun β ρ w' hM' => ⟨(a1, c1), hs1, rfl, hM'.below, give1 _ hM' List.mem_cons_self hf1⟩

end Go.Proofs.Ytjeghmlingfnjaa.turn
