import Derived.Test.YthjlilepialmoaaFnvLive
import Derived.Test.YthjlilepialmoaaFnvFacts
import Derived.Test.YthjlilepialmoaaFnvShardsWalk
namespace Go.Proofs.Ythjlilepialmoaa.fnvBytes
open Go.RowKit Go.ChangeShapes Go.WideShapes fnv
set_option linter.unusedVariables false

theorem one_byte (s : ByteArray) (k : Nat) (hk : k < s.size) : List.take 1 (List.drop k s.data.toList) = [s[k]] := by
  have h : k < s.data.toList.length := by simpa using hk
  rw [List.drop_eq_getElem_cons h]
  rfl

theorem prod_facts (h : Int) (h0 : 0 ≤ h) (h1 : h ≤ 18446744073709551615) : h * 1099511628211 % 18446744073709551616 = h → h * 1099511628210 % 18446744073709551616 = 0 := by omega

set_option maxHeartbeats 1000000 in
theorem tail (h Y p q : Int) (s : ByteArray) (w : World) (W : Hid (s.size ≤ maxLen)) (HY : Hid (∀ w, Calls Try.prog 29 #[.int .u64 h, .string ⟨#[0]⟩] w fun e w' => e = .returned (.int .u64 Y) ∧ w = w'))
    (hs : s.size ≤ 5000) (hp : IntKind.u64.wrap (h * 1099511628211) = p) (hq : IntKind.u64.wrap (h * 1099511628210) = q) (e1 : (Y == p) = true)
    (hc : (Y != h) = true ∨ ((Y != h) = false ∧ (h == 0) = true) ∨ ((Y != h) = false ∧ (h == 0) = false ∧ (q == 0) = true)) :
    Calls Try.prog 14 #[.int .u64 h, .string s] w fun e w' => e = .returned (.bool true) ∧ Below w.heap.size w w' := by
  rcases hc with c | ⟨c, c1⟩ | ⟨c, c1, c2⟩
  all_goals
    go_enter Try.func14, Try.ntmps14
    go_wp2_with fail
    go_loop [5, 6] (fun x i => ∃ (k : Nat), k ≤ s.size ∧ i = .int .i64 k ∧ x = .int .u64 (hroll h (s.data.toList.take k))) (fun _ i => s.size - (intOf i).toNat)
    case atStart => exact ⟨0, Nat.zero_le _, rfl, rfl⟩
    case round =>
      obtain ⟨k, hk, rfl, rfl⟩ := hrel
      by_cases hlt : k < s.size
      · have hn := Lib.hid (hroll_snoc h s k hlt)
        have he := Lib.hid (one_byte s k hlt)
        generalize hroll h (s.data.toList.take k) = v at hn ⊢
        go_wp2_with fail
        refine (roll v (s.extract k (k + 1)) _ (by have := W.out; simp [ByteArray.size_extract]; unfold maxLen; omega)).mono ?_
        rintro e w' ⟨rfl, rfl⟩
        go_wp2_with fail
        go_round
        case rel => exact ⟨k + 1, by omega, by go_num, val_int (by rw [hn.out, he.out]; rfl)⟩
        case measure => simp [intOf]; omega
      · have hn := take_all s k (by omega)
        rw [hn]
        clear hn
        go_wp2_with fail
        refine (HY.out _).mono ?_
        rintro e w' ⟨rfl, rfl⟩
        go_wp2_with fail
        refine (roll h s _ W.out).mono ?_
        rintro e w' ⟨rfl, rfl⟩
        go_wp2_with fail
        refine (live_true _).mono ?_
        rintro e w1 ⟨rfl, hb⟩
        go_wp2_with fail
        go_ret
        exact ⟨rfl, hb⟩

theorem walk (h : Int) (s : ByteArray) (w : World) (wh : (Lit.int .u64 h).wf = true) (ws : s.size ≤ maxLen) :
    Calls Try.prog 14 #[.int .u64 h, .string s] w fun e w' => e = .returned (.bool true) ∧ Below w.heap.size w w' := by
  have fh := bounds_u64 wh
  have hsz := ws
  unfold maxLen at hsz
  by_cases c : 5000 < s.size
  · have W := Lib.hid ws
    clear ws wh
    go_enter Try.func14, Try.ntmps14
    go_wp2_with fail
    refine (live_true _).mono ?_
    rintro e w1 ⟨rfl, hb⟩
    go_wp2_with fail
    go_ret
    exact ⟨rfl, hb⟩
  · have hy : ∀ w, Calls Try.prog 29 #[.int .u64 h, .string ⟨#[0]⟩] w fun e w' => e = .returned (.int .u64 (hstep h 0)) ∧ w = w' := fun w => roll h ⟨#[0]⟩ w (by show 1 ≤ 2 ^ 63 - 1; decide)
    refine tail h (hstep h 0) _ _ s w (Lib.hid ws) (Lib.hid hy) (by omega) rfl rfl ?_ ?_
    · rw [wrap_u64, hstep_zero h fh.1 fh.2]
      simp
    · rw [wrap_u64, hstep_zero h fh.1 fh.2]
      have := prod_facts h fh.1 fh.2
      by_cases d : h * 1099511628211 % 18446744073709551616 = h
      · by_cases d0 : h = 0
        · exact Or.inr (Or.inl ⟨by simpa using d, by simpa using d0⟩)
        · exact Or.inr (Or.inr ⟨by simpa using d, by simpa using d0, by simpa using this d⟩)
      · exact Or.inl (by simpa using d)
end Go.Proofs.Ythjlilepialmoaa.fnvBytes
