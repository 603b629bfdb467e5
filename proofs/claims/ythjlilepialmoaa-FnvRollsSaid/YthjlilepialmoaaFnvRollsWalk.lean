import Derived.Test.YthjlilepialmoaaFnvLive
import Derived.Test.YthjlilepialmoaaFnvFacts
import Derived.Test.YthjlilepialmoaaFnvShardsWalk
import Derived.Deep.RegionHeld3
namespace Go.Proofs.Ythjlilepialmoaa.fnvRolls
open Go.RowKit Go.ChangeShapes Go.WideShapes fnv
set_option linter.unusedVariables false

theorem hof_app (a b : ByteArray) : hof (a ++ b).data.toList = hroll (hof a.data.toList) b.data.toList := by
  have : (a ++ b).data.toList = a.data.toList ++ b.data.toList := by simp
  rw [this]
  exact hroll_append _ _ _

theorem same_bool (x y : Int) (p q : UInt8) (h : x = y ↔ p = q) : ((x == y) == ((p.toNat : Int) == (q.toNat : Int))) = true := by
  have hn : (p.toNat : Int) = (q.toNat : Int) ↔ p = q := ⟨fun k => UInt8.toNat_inj.1 (by omega), fun k => by rw [k]⟩
  by_cases c : p = q
  · rw [beq_iff_eq.2 (h.2 c), beq_iff_eq.2 (hn.2 c)]; rfl
  · rw [beq_eq_false_iff_ne.2 (fun k => c (h.1 k)), beq_eq_false_iff_ne.2 (fun k => c (hn.1 k))]; rfl

set_option maxHeartbeats 2000000 in
theorem core (a b : ByteArray) (p q : UInt8) (w : World) (WA : Hid (a.size ≤ maxLen)) (WB : Hid (b.size ≤ maxLen)) (ha : a.size ≤ 70000) (hb : b.size ≤ 70000) :
    Calls Try.prog 11 #[.string a, .string b, .agg #[.int .u8 p.toNat, .int .u8 q.toNat]] w fun e w' => e = .returned (.bool true) ∧ Below w.heap.size w w' := by
  have bd := hof_bd a.data.toList
  have i1 := hstep_inj (hof a.data.toList) bd.1 bd.2 p q
  have hab : ∀ w, Calls Try.prog 27 #[.string (a ++ b)] w fun e w' => e = .returned (.int .u64 (hroll (hof a.data.toList) b.data.toList)) ∧ w = w' := fun w => by rw [← hof_app]; exact of_any _ w (by simp [ByteArray.size_append]; unfold maxLen; omega)
  have hp : ∀ w, Calls Try.prog 27 #[.string (a ++ ⟨#[p]⟩)] w fun e w' => e = .returned (.int .u64 (hstep (hof a.data.toList) p)) ∧ w = w' := fun w => by
    have := of_any (a ++ ⟨#[p]⟩) w (by simp [ByteArray.size_append]; unfold maxLen; show a.size + 1 ≤ _; omega)
    rw [hof_app] at this
    exact this
  have hq : ∀ w, Calls Try.prog 27 #[.string (a ++ ⟨#[q]⟩)] w fun e w' => e = .returned (.int .u64 (hstep (hof a.data.toList) q)) ∧ w = w' := fun w => by
    have := of_any (a ++ ⟨#[q]⟩) w (by simp [ByteArray.size_append]; unfold maxLen; show a.size + 1 ≤ _; omega)
    rw [hof_app] at this
    exact this
  have ho : ∀ w, Calls Try.prog 27 #[.string a] w fun e w' => e = .returned (.int .u64 (hof a.data.toList)) ∧ w = w' := fun w => of_any a w WA.out
  have hr : ∀ v w, Calls Try.prog 29 #[.int .u64 v, .string b] w fun e w' => e = .returned (.int .u64 (hroll v b.data.toList)) ∧ w = w' := fun v w => roll v b w WB.out
  have h0 : ∀ v w, Calls Try.prog 29 #[.int .u64 v, .string ⟨#[]⟩] w fun e w' => e = .returned (.int .u64 v) ∧ w = w' := fun v w => roll v ⟨#[]⟩ w (by show 0 ≤ 2 ^ 63 - 1; omega)
  have HAB := Lib.hid hab
  have HP := Lib.hid hp
  have HQ := Lib.hid hq
  have HO := Lib.hid ho
  have HR := Lib.hid hr
  have H0 := Lib.hid h0
  have I := Lib.hid i1
  clear hab hp hq ho hr h0 i1 bd
  generalize hstep (hof a.data.toList) p = x at HP I
  generalize hstep (hof a.data.toList) q = y at HQ I
  generalize hof a.data.toList = v at HAB HO
  obtain ⟨z, hz⟩ : ∃ z, hroll v b.data.toList = z := ⟨_, rfl⟩
  rw [hz] at HAB
  have HZ := Lib.hid hz
  clear hz
  go_enter Try.func11, Try.ntmps11
  go_wp2_with fail
  have c0 : (w.alloc (.cells #[.int .u8 p.toNat, .int .u8 q.toNat] 41 (0, 0))).cell? ⟨w.heap.size, 0, none⟩ = some (.int .u8 p.toNat) := by simp
  have c1 : (w.alloc (.cells #[.int .u8 p.toNat, .int .u8 q.toNat] 41 (0, 0))).cell? ⟨w.heap.size, 1, none⟩ = some (.int .u8 q.toNat) := by simp
  have B0 : Below w.heap.size w (w.alloc (.cells #[.int .u8 p.toNat, .int .u8 q.toNat] 41 (0, 0))) := (Below.refl _ _).alloc (Nat.le_refl _) _
  generalize w.alloc (.cells #[.int .u8 p.toNat, .int .u8 q.toNat] 41 (0, 0)) = w0 at c0 c1 B0 ⊢
  have hlt : w.heap.size < w0.heap.size := World.block_lt_of_cell? w0 _ c0
  have hv1 := one_string p w0
  have hv2 := one_string q (w0.alloc (.cells #[.int .u8 p.toNat] 5 (0, 0)))
  simp only [World.size_alloc] at hv2
  have d0 : ((w0.alloc (.cells #[.int .u8 p.toNat] 5 (0, 0))).alloc (.cells #[.int .u8 q.toNat] 5 (0, 0))).cell? ⟨w.heap.size, 0, none⟩ = some (.int .u8 p.toNat) := by
    rw [World.cell?_alloc_lt _ _ _ (by simp; omega), World.cell?_alloc_lt _ _ _ hlt]; exact c0
  have d1 : ((w0.alloc (.cells #[.int .u8 p.toNat] 5 (0, 0))).alloc (.cells #[.int .u8 q.toNat] 5 (0, 0))).cell? ⟨w.heap.size, 1, none⟩ = some (.int .u8 q.toNat) := by
    rw [World.cell?_alloc_lt _ _ _ (by simp; omega), World.cell?_alloc_lt _ _ _ hlt]; exact c1
  refine (HAB.out _).mono ?_
  rintro e w' ⟨rfl, rfl⟩
  go_wp2_with fail
  refine (HO.out _).mono ?_
  rintro e w' ⟨rfl, rfl⟩
  go_wp2_with fail
  refine (HR.out _ _).mono ?_
  rintro e w' ⟨rfl, rfl⟩
  rw [HZ.out]
  go_wp2_with fail
  refine (HO.out _).mono ?_
  rintro e w' ⟨rfl, rfl⟩
  go_wp2_with fail
  refine (H0.out _ _).mono ?_
  rintro e w' ⟨rfl, rfl⟩
  go_wp2_with fail
  refine (HO.out _).mono ?_
  rintro e w' ⟨rfl, rfl⟩
  go_wp2_with fail
  refine (HP.out _).mono ?_
  rintro e w' ⟨rfl, rfl⟩
  go_wp2_with fail
  refine (HQ.out _).mono ?_
  rintro e w' ⟨rfl, rfl⟩
  have ht := same_bool x y p q I.out
  go_wp2_with fail
  refine (live_true _).mono ?_
  rintro e w1 ⟨rfl, hb1⟩
  go_wp2_with fail
  go_ret
  exact ⟨rfl, fnvShards.chain ((B0.alloc B0.size _).alloc (by have := B0.size; simp; omega) _) hb1⟩

theorem walk (a b : ByteArray) (c d : Int) (w : World) (wa : a.size ≤ maxLen) (wb : b.size ≤ maxLen) (wc : (Lit.int .u8 c).wf = true ∧ (Lit.int .u8 d).wf = true) :
    Calls Try.prog 11 #[.string a, .string b, .agg #[.int .u8 c, .int .u8 d]] w fun e w' => e = .returned (.bool true) ∧ Below w.heap.size w w' := by
  have fc := bounds_u8 wc.1
  have fd := bounds_u8 wc.2
  have ha := wa
  have hb := wb
  unfold maxLen at ha hb
  have WA := Lib.hid wa
  have WB := Lib.hid wb
  clear wa wb wc
  by_cases c1 : 70000 < a.size
  · go_enter Try.func11, Try.ntmps11
    go_wp2_with fail
    refine (live_true _).mono ?_
    rintro e w1 ⟨rfl, hb⟩
    go_wp2_with fail
    go_ret
    exact ⟨rfl, ((Below.refl _ _).alloc (Nat.le_refl _) _).trans (hb.mono (by simp))⟩
  by_cases c2 : 70000 < b.size
  · go_enter Try.func11, Try.ntmps11
    go_wp2_with fail
    refine (live_true _).mono ?_
    rintro e w1 ⟨rfl, hb⟩
    go_wp2_with fail
    go_ret
    exact ⟨rfl, ((Below.refl _ _).alloc (Nat.le_refl _) _).trans (hb.mono (by simp))⟩
  obtain ⟨p, rfl⟩ : ∃ p : UInt8, c = p.toNat := ⟨UInt8.ofNat c.toNat, by rw [UInt8.toNat_ofNat']; omega⟩
  obtain ⟨q, rfl⟩ : ∃ q : UInt8, d = q.toNat := ⟨UInt8.ofNat d.toNat, by rw [UInt8.toNat_ofNat']; omega⟩
  exact core a b p q w WA WB (by omega) (by omega)
end Go.Proofs.Ythjlilepialmoaa.fnvRolls
