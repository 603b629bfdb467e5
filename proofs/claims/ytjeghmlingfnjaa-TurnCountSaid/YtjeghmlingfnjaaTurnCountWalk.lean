/- The walk of hopperlaw10.TurnCount. -/
import Derived.Test.YtjeghmlingfnjaaTurnLive
namespace Go.Proofs.Ytjeghmlingfnjaa.turnCount
open Go.RowKit Sx turn
set_option linter.unusedVariables false
set_option linter.unusedSimpArgs false
def lastC (bs : List Bool) : Nat → Int
  | 0 => -1
  | k + 1 => oi (ups bs)[k]?
theorem at_up {bs : List Bool} {k : Nat} (h : k < (ups bs).length) : ∃ x : Nat, (ups bs)[k]? = some x ∧ x < bs.length ∧ lastC bs k < x ∧ lastC bs (k + 1) = x ∧ pck bs k = x := by
  refine ⟨(ups bs)[k], List.getElem?_eq_getElem h, (mem_ups.1 (List.getElem_mem h)).1, ?_, ?_, ?_⟩
  · cases k with
    | zero => show (-1 : Int) < _; omega
    | succ k =>
      show oi (ups bs)[k]? < _
      rw [List.getElem?_eq_getElem (by omega)]
      have := List.pairwise_iff_getElem.1 (ups_rise bs) k (k + 1) (by omega) h (by omega)
      show ((ups bs)[k] : Int) < _
      omega
  · show oi (ups bs)[k]? = _
    rw [List.getElem?_eq_getElem h]; rfl
  · unfold pck
    rw [if_neg (by omega), Int.toNat_natCast, Nat.mod_eq_of_lt h, List.getElem?_eq_getElem h]; rfl
theorem set_bc (bs : List Bool) (i : Nat) (h : i < bs.length) : spl ([] ++ bc bs) (i * 1) [.bool true] = bc (bs.set i true) := by
  rw [Nat.mul_one, List.nil_append]
  unfold spl bc
  rw [List.set_eq_take_append_cons_drop, if_pos h]
  simp [List.map_take, List.map_drop]
set_option maxHeartbeats 4000000 in
set_option maxRecDepth 100000 in
theorem walk (a : Option Addr) (n c : Nat) (bs : List Bool) (i : Int) (w : World) (hl : Sl a n c ∧ n = bs.length ∧ At w (pt a n) (bs.map Value.bool)) (hi : Fits i) : Calls Try.prog 15 (List.toArray [.slice a n c, .int .i64 i]) w fun e w' =>  e = .returned (.bool true) ∧ Below w.heap.size w w' := by
  obtain ⟨hs, hn, hrow⟩ := hl
  have hn63 := hs.le
  have hul := ups_le bs
  refine calls_of_exec env_ok Try.func15 rfl [] (by kernel_rfl) [rowF (pt a n) (bc bs)] (at1 hrow) ?_
  (conv => arg 5; whnf)
  refine wp_br (fun h => ?_) (fun h => ?_)
  · (conv => arg 5; whnf)
    refine meetc (f := 43) (v := .bool true) rfl (by kernel_rfl) (fun β ρ w' hM' => live w') ?_
    (conv => arg 5; whnf)
    exact wp_back fun β ρ w' hM' => ⟨rfl, hM'.below⟩
  · have hl : bs.length ≤ 200 := by simp at h; omega
    clear h
    have C1 := fun (w : World) hr => countE bs a n c _ w hs hn (by omega) rfl hr
    have hat := fun k => at_up (bs := bs) (k := k)
    have hset := fun i => ups_set (bs := bs) (i := i)
    generalize hm : (ups bs).length = m at *
    (conv => arg 5; whnf)
    refine meetc (f := 44) (v := .int .i64 (m : Nat)) rfl (by kernel_rfl) (fun β ρ w' hM' => C1 w' (hM'.at_ (.head _))) ?_
    (conv => arg 5; whnf)
    refine loop_rule env_ok [] (by kernel_rfl) (fun k : Nat => k ≤ m) (fun k => (⟨[], [], [rowF (pt a n) (bc bs)]⟩, sl 73 [(0, .v (.slice a n c)), (1, .v (.int .i64 i)), (4, .v (.bool false)), (5, .v (.int .i64 (m : Nat))), (6, .v (.int .i64 (lastC bs k))), (7, .v (.int .i64 (k : Nat)))])) (fun k => m - k) 0 (Nat.zero_le _) ⟨by repeat' first | exact trivial | refine ⟨.inl rfl, ?_⟩ | refine ⟨.inr rfl, ?_⟩, ⟨by repeat' first | exact trivial | refine ⟨.inl rfl, ?_⟩ | refine ⟨.inr rfl, ?_⟩, by repeat' first | exact trivial | refine ⟨.inl rfl, ?_⟩ | refine ⟨.inr rfl, ?_⟩, fun _ h => h⟩, rfl⟩ ?_
    intro k hk
    (conv => arg 5; whnf)
    refine wp_br (fun g1 => ?_) (fun g1 => ?_)
    · have hlt : k < m := by simp at g1; omega
      obtain ⟨x, -, hx, hlx, hl1, hpk⟩ := hat k (by omega)
      have hfk : Fits (k : Int) := by unfold Fits; omega
      (conv => arg 5; whnf)
      refine meetc (f := 46) (v := .int .i64 (x : Nat)) rfl (by kernel_rfl) (fun β ρ w' hM' => pickE bs a n c k _ w' hfk hs hn (by omega) hpk (hM'.at_ (.head _))) ?_
      (conv => arg 5; whnf)
      refine wp_g0 (fun _ => ?_) (fun h => by simp at h; omega)
      (conv => arg 5; whnf)
      refine wp_br (fun h => by simp at h; omega) (fun _ => ?_)
      (conv => arg 5; whnf)
      refine wp_must ⟨by omega, by omega⟩ ?_
      (conv => arg 5; whnf)
      rw [← hl1]; refine wp_end ⟨k + 1, by omega, ⟨by repeat' first | exact trivial | refine ⟨.inl rfl, ?_⟩ | refine ⟨.inr rfl, ?_⟩, ⟨by repeat' first | exact trivial | refine ⟨.inl rfl, ?_⟩ | refine ⟨.inr rfl, ?_⟩, by repeat' first | exact trivial | refine ⟨.inl rfl, ?_⟩ | refine ⟨.inr rfl, ?_⟩, fun _ h => h⟩, rfl⟩, by show m - (k + 1) < m - k; omega⟩
    · clear g1
      (conv => arg 5; whnf)
      refine wp_g0 (fun g2 => ?_) (fun _ => ?_)
      · (conv => arg 5; whnf)
        refine wp_g0 (fun g3 => ?_) (fun _ => ?_)
        · have hi0 : 0 ≤ i ∧ i < n := by simp at g2 g3; omega
          clear g2 g3
          obtain ⟨j, rfl⟩ : ∃ j : Nat, i = j := ⟨i.toNat, by omega⟩
          have hj : j < n := by omega
          (conv => arg 5; whnf)
          refine wp_must ⟨by omega, by omega, hs.some hj⟩ ?_
          (conv => arg 5; whnf)
          refine readP (.bool (on bs j)) rfl (.head _) hj (hs.some hj) (bc_at (show j < bs.length by omega)) (j := j) (by simp) ?_
          (conv => arg 5; whnf)
          refine wp_br (fun _ => ?_) (fun g4 => ?_)
          · (conv => arg 5; whnf)
            refine wp_g1 (fun _ => ?_) (fun h => by simp at h; omega)
            (conv => arg 5; whnf)
            refine meetc (f := 43) (v := .bool true) rfl (by kernel_rfl) (fun β ρ w' hM' => live w') ?_
            (conv => arg 5; whnf)
            exact wp_back fun β ρ w' hM' => ⟨rfl, hM'.below⟩
          · have hcn := hset j (by omega) g4
            have hrow2 : ∀ {w : World}, At w (pt a n) (bc bs) → At w a (bc bs) := fun h => by rw [pt_pos hj] at h; exact h
            (conv => arg 5; whnf)
            refine ⟨bc bs, by simp [bc, hn], fun u hu => (by obtain ⟨b, -, rfl⟩ := List.mem_map.1 hu; rfl), fun β ρ w' hM' ad had q u hu => At.cell (had ▸ hrow2 (hM'.at_ (.head _))) hu, ?_⟩
            (conv => arg 5; whnf)
            refine wp_must ⟨by show 0 + n ≤ maxLen; unfold maxLen; omega, by show (0 + n) * 1 ≤ _; omega, fun h => by have := hs.some hj; rw [h] at this; cases this⟩ ?_
            (conv => arg 5; whnf)
            refine wp_must ⟨by omega, by show (j : Int) < ((0 + n : Nat) : Int); omega⟩ ?_
            (conv => arg 5; whnf)
            refine wp_must (by show j * 1 + 1 ≤ ([] ++ bc bs).length; simp [bc]; omega) ?_
            (conv => arg 5; whnf)
            rw [show ((j : Nat) : Int).toNat = j from Int.toNat_natCast j, set_bc bs j (by omega)]; refine wp_share fun u c_u h_u f_u => ?_
            (conv => arg 5; whnf)
            refine meetc (f := 44) (v := .int .i64 ((m : Int) + 1)) rfl (by kernel_rfl) (fun β ρ w' hM' => countE (bs.set j true) u (0 + n) c_u ((m : Int) + 1) w' h_u (by simp; omega) (by simp; omega) (by rw [hcn]; rfl) ((hM'.at_ (.head _)).pt _)) ?_
            (conv => arg 5; whnf)
            refine wp_must ⟨by omega, by omega⟩ ?_
            (conv => arg 5; whnf)
            refine wp_g1 (fun _ => ?_) (fun h => by simp at h)
            (conv => arg 5; whnf)
            refine meetc (f := 43) (v := .bool true) rfl (by kernel_rfl) (fun β ρ w' hM' => live w') ?_
            (conv => arg 5; whnf)
            exact wp_back fun β ρ w' hM' => ⟨rfl, hM'.below⟩
        · (conv => arg 5; whnf)
          refine wp_g1 (fun _ => ?_) (fun h => by simp at h; omega)
          (conv => arg 5; whnf)
          refine meetc (f := 43) (v := .bool true) rfl (by kernel_rfl) (fun β ρ w' hM' => live w') ?_
          (conv => arg 5; whnf)
          exact wp_back fun β ρ w' hM' => ⟨rfl, hM'.below⟩
      · (conv => arg 5; whnf)
        refine wp_g1 (fun _ => ?_) (fun h => by simp at h; omega)
        (conv => arg 5; whnf)
        refine meetc (f := 43) (v := .bool true) rfl (by kernel_rfl) (fun β ρ w' hM' => live w') ?_
        (conv => arg 5; whnf)
        exact wp_back fun β ρ w' hM' => ⟨rfl, hM'.below⟩
end Go.Proofs.Ytjeghmlingfnjaa.turnCount
