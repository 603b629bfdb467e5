/- The walk of hopperlaw10.TurnMay. -/
import Derived.Test.YtjeghmlingfnjaaTurnLive
namespace Go.Proofs.Ytjeghmlingfnjaa.turnMay
open Go.RowKit Sx turn
set_option linter.unusedVariables false
set_option linter.unusedSimpArgs false
theorem pck_some {bs : List Bool} {m : Int} (hu : ups bs ≠ []) (hm : 0 ≤ m) : ∃ a : Nat, pck bs m = a ∧ (ups bs)[m.toNat % (ups bs).length]? = some a := by
  have hp : 0 < (ups bs).length := List.length_pos_iff.2 hu
  have hq := Nat.mod_lt m.toNat hp
  refine ⟨(ups bs)[m.toNat % (ups bs).length], ?_, List.getElem?_eq_getElem hq⟩
  unfold pck
  rw [if_neg (by omega), List.getElem?_eq_getElem hq]
  rfl
theorem nxt_some {bs : List Bool} {last : Int} (hu : ups bs ≠ []) : ∃ b : Nat, nxt bs last = b ∧ b < bs.length ∧ on bs b = true := by
  obtain ⟨s, h1, h2, h3, -⟩ := nxt_first (frm_le bs last) hu
  exact ⟨_, by unfold nxt; rw [h2]; rfl, Nat.mod_lt _ (by omega), h3⟩
theorem pck_one {bs : List Bool} {m : Int} {a : Nat} (hm : 0 ≤ m) (h : (ups bs)[m.toNat % (ups bs).length]? = some a) : pck bs (m + 1) = nxt bs a := by
  rw [nxt_ups h]
  unfold pck
  rw [if_neg (by omega), show (m + 1).toNat = m.toNat + 1 from by omega, Nat.mod_add_mod]
theorem pck_all {bs : List Bool} {m : Int} {a : Nat} (hm : 0 ≤ m) (h : (ups bs)[m.toNat % (ups bs).length]? = some a) : pck bs (m + ((ups bs).length : Nat)) = a := by
  unfold pck
  rw [if_neg (by omega), show (m + ((ups bs).length : Nat)).toNat = m.toNat + (ups bs).length from by omega, Nat.add_mod_right, h]
  rfl
set_option maxHeartbeats 4000000 in
set_option maxRecDepth 100000 in
theorem walk (a : Option Addr) (n c : Nat) (bs : List Bool) (m last : Int) (w : World) (hl : Sl a n c ∧ n = bs.length ∧ At w (pt a n) (bs.map Value.bool)) (hm : Fits m) (hi : Fits last) : Calls Try.prog 12 (List.toArray [.slice a n c, .int .i64 m, .int .i64 last]) w fun e w' =>  e = .returned (.bool true) ∧ Below w.heap.size w w' := by
  obtain ⟨hs, hn, hrow⟩ := hl
  have hul := ups_le bs
  refine calls_of_exec env_ok Try.func12 rfl [] (by kernel_rfl) [rowF (pt a n) (bc bs)] (at1 hrow) ?_
  (conv => arg 5; whnf)
  refine wp_g0 (fun g1 => ?_) (fun _ => ?_)
  · have hl : bs.length ≤ 200 := by simp at g1; omega
    (conv => arg 5; whnf)
    refine wp_g0 (fun g2 => ?_) (fun _ => ?_)
    · have hm0 : 0 ≤ m := by simpa using g2
      (conv => arg 5; whnf)
      refine wp_br (fun _ => ?_) (fun g3 => ?_)
      · (conv => arg 5; whnf)
        refine meetc (f := 43) (v := .bool true) rfl (by kernel_rfl) (fun β ρ w' hM' => live w') ?_
        (conv => arg 5; whnf)
        exact wp_back fun β ρ w' hM' => ⟨rfl, hM'.below⟩
      · have hm1 : m ≤ 1099511627776 := by simpa using g3
        clear g1 g2 g3
        by_cases hu : ups bs = []
        · have p1 : pck bs m = -1 := by unfold pck; rw [hu]; split <;> rfl
          have n1 : nxt bs last = -1 := nxt_none hu
          have c1 : (((ups bs).length : Nat) : Int) = 0 := by rw [hu]; rfl
          (conv => arg 5; whnf)
          refine meetc (f := 46) (v := .int .i64 (-1)) rfl (by kernel_rfl) (fun β ρ w' hM' => pickE bs a n c m _ w' hm hs hn (by omega) p1 (hM'.at_ (.head _))) ?_
          (conv => arg 5; whnf)
          refine meetc (f := 48) (v := .int .i64 (-1)) rfl (by kernel_rfl) (fun β ρ w' hM' => nextE bs a n c last _ w' hs hn (by omega) n1 (hM'.at_ (.head _))) ?_
          (conv => arg 5; whnf)
          refine meetc (f := 44) (v := .int .i64 0) rfl (by kernel_rfl) (fun β ρ w' hM' => countE bs a n c _ w' hs hn (by omega) c1 (hM'.at_ (.head _))) ?_
          (conv => arg 5; whnf)
          refine wp_prim (.bool false) (fun w => rfl) ?_
          (conv => arg 5; whnf)
          refine wp_prim (.bool false) (fun w => rfl) ?_
          (conv => arg 5; whnf)
          refine wp_g0 (fun _ => ?_) (fun h => by simp at h; omega)
          (conv => arg 5; whnf)
          refine wp_br (fun h => by simp at h; omega) (fun _ => ?_)
          (conv => arg 5; whnf)
          refine meetc (f := 43) (v := .bool true) rfl (by kernel_rfl) (fun β ρ w' hM' => live w') ?_
          (conv => arg 5; whnf)
          exact wp_back fun β ρ w' hM' => ⟨rfl, hM'.below⟩
        · obtain ⟨x, px, hx⟩ := pck_some hu hm0
          obtain ⟨y, ny, hy, oy⟩ := nxt_some (last := last) hu
          obtain ⟨hxl, ox, -, -⟩ := split_at hx
          have hp : 0 < (ups bs).length := List.length_pos_iff.2 hu
          have q1 := pck_one hm0 hx
          have q2 := pck_all hm0 hx
          have C1 := fun (w : World) hr => countE bs a n c _ w hs hn (by omega) rfl hr
          generalize (ups bs).length = k at *
          have r1 := bc_at hxl
          have r2 := bc_at hy
          rw [ox] at r1
          rw [oy] at r2
          have hfx : Fits (m + (k : Int)) := by unfold Fits at *; omega
          have hfx1 : Fits (m + 1) := by unfold Fits at *; omega
          (conv => arg 5; whnf)
          refine meetc (f := 46) (v := .int .i64 (x : Nat)) rfl (by kernel_rfl) (fun β ρ w' hM' => pickE bs a n c m _ w' hm hs hn (by omega) px (hM'.at_ (.head _))) ?_
          (conv => arg 5; whnf)
          refine meetc (f := 48) (v := .int .i64 (y : Nat)) rfl (by kernel_rfl) (fun β ρ w' hM' => nextE bs a n c last _ w' hs hn (by omega) ny (hM'.at_ (.head _))) ?_
          (conv => arg 5; whnf)
          refine meetc (f := 44) (v := .int .i64 (k : Nat)) rfl (by kernel_rfl) (fun β ρ w' hM' => C1 w' (hM'.at_ (.head _))) ?_
          (conv => arg 5; whnf)
          refine wp_prim (.bool false) (fun w => by rw [show decide ((x : Int) < 0) = false by simp, show ((k : Int) == 0) = false by simp; omega]; rfl) ?_
          (conv => arg 5; whnf)
          refine wp_prim (.bool false) (fun w => by rw [show decide ((y : Int) < 0) = false by simp, show ((k : Int) == 0) = false by simp; omega]; rfl) ?_
          (conv => arg 5; whnf)
          refine wp_g0 (fun _ => ?_) (fun h => by simp at h; omega)
          (conv => arg 5; whnf)
          refine wp_br (fun h => by simp at h; omega) (fun _ => ?_)
          (conv => arg 5; whnf)
          refine wp_br (fun h => by simp at h; omega) (fun _ => ?_)
          (conv => arg 5; whnf)
          refine wp_must ⟨by omega, by omega, hs.some (show x < n by omega)⟩ ?_
          (conv => arg 5; whnf)
          refine readP (.bool true) rfl (.head _) (show x < n by omega) (hs.some (show x < n by omega)) r1 (j := x) (by simp) ?_
          (conv => arg 5; whnf)
          refine wp_must ⟨by omega, by omega, hs.some (show y < n by omega)⟩ ?_
          (conv => arg 5; whnf)
          refine readP (.bool true) rfl (.head _) (show y < n by omega) (hs.some (show y < n by omega)) r2 (j := y) (by simp) ?_
          (conv => arg 5; whnf)
          refine wp_must ⟨by omega, by omega⟩ ?_
          (conv => arg 5; whnf)
          refine meetc (f := 46) (v := .int .i64 (nxt bs x)) rfl (by kernel_rfl) (fun β ρ w' hM' => pickE bs a n c (m + 1) _ w' hfx1 hs hn (by omega) q1 (hM'.at_ (.head _))) ?_
          (conv => arg 5; whnf)
          refine meetc (f := 48) (v := .int .i64 (nxt bs x)) rfl (by kernel_rfl) (fun β ρ w' hM' => nextE bs a n c x _ w' hs hn (by omega) rfl (hM'.at_ (.head _))) ?_
          (conv => arg 5; whnf)
          refine wp_g1 (fun _ => ?_) (fun h => by simp at h)
          (conv => arg 5; whnf)
          refine wp_must ⟨by omega, by omega⟩ ?_
          (conv => arg 5; whnf)
          refine meetc (f := 46) (v := .int .i64 (x : Nat)) rfl (by kernel_rfl) (fun β ρ w' hM' => pickE bs a n c (m + (k : Int)) _ w' hfx hs hn (by omega) q2 (hM'.at_ (.head _))) ?_
          (conv => arg 5; whnf)
          refine wp_g1 (fun _ => ?_) (fun h => by simp at h)
          (conv => arg 5; whnf)
          refine meetc (f := 43) (v := .bool true) rfl (by kernel_rfl) (fun β ρ w' hM' => live w') ?_
          (conv => arg 5; whnf)
          exact wp_back fun β ρ w' hM' => ⟨rfl, hM'.below⟩
    · (conv => arg 5; whnf)
      refine meetc (f := 43) (v := .bool true) rfl (by kernel_rfl) (fun β ρ w' hM' => live w') ?_
      (conv => arg 5; whnf)
      exact wp_back fun β ρ w' hM' => ⟨rfl, hM'.below⟩
  · (conv => arg 5; whnf)
    refine meetc (f := 43) (v := .bool true) rfl (by kernel_rfl) (fun β ρ w' hM' => live w') ?_
    (conv => arg 5; whnf)
    exact wp_back fun β ρ w' hM' => ⟨rfl, hM'.below⟩
end Go.Proofs.Ytjeghmlingfnjaa.turnMay
