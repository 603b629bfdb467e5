import Derived.Test.YthjlilepialmoaaFnvLive
namespace Go.Proofs.Ythjlilepialmoaa.fnvShards
open Go.RowKit Go.ChangeShapes Go.WideShapes fnv
set_option linter.unusedVariables false

theorem chain {w w1 w2 : World} (h1 : Below w.heap.size w w1) (h2 : Below w1.heap.size w1 w2) : Below w.heap.size w w2 := h1.trans (h2.mono h1.size)

theorem walk (s n : Int) (w : World) (_ : (Lit.int .i64 s).wf = true) (_ : (Lit.int .i64 n).wf = true) :
    Calls Try.prog 13 #[.int .i64 s, .int .i64 n] w fun e w' => e = .returned (.bool true) ∧ Below w.heap.size w w' := by
  by_cases h : s < 0 ∨ 255 < s ∨ n < 1 ∨ 8 < n
  · have h' : s < 0 ∨ (0 ≤ s ∧ 255 < s) ∨ (0 ≤ s ∧ s ≤ 255 ∧ n < 1) ∨ (0 ≤ s ∧ s ≤ 255 ∧ 1 ≤ n ∧ 8 < n) := by omega
    have H := Lib.hid h
    clear h
    rcases h' with h | ⟨h, h1⟩ | ⟨h, h1, h2⟩ | ⟨h, h1, h2, h3⟩
    all_goals
      go_enter Try.func13, Try.ntmps13
      go_wp2_with fail
      refine (shard_no s n _ H.out).mono ?_
      rintro e w' ⟨rfl, rfl⟩
      go_wp2_with fail
      refine (live_true _).mono ?_
      rintro e w1 ⟨rfl, hb⟩
      go_wp2_with fail
      go_ret
      exact ⟨rfl, hb⟩
  · have h0 : 0 ≤ s := by omega
    have h1 : s ≤ 255 := by omega
    have h2 : 1 ≤ n := by omega
    have h3 : n ≤ 8 := by omega
    clear h
    have e1 : shardV s 1 = 0 := by unfold shardV; rw [if_pos (by omega)]; omega
    have hs1 : ∀ w, Calls Try.prog 33 #[.int .i64 s, .int .i64 1] w fun e w' => e = .returned (.int .i64 0) ∧ Below w.heap.size w w' := fun w => by have := shard_any s 1 w; rw [e1] at this; exact this
    have H1 := Lib.hid hs1
    have b0 : 0 ≤ shardV s n := by unfold shardV; rw [if_pos (by omega)]; exact Int.emod_nonneg _ (by omega)
    have b1 : shardV s n < n := by unfold shardV; rw [if_pos (by omega)]; exact Int.emod_lt_of_pos _ (by omega)
    have hs : ∀ w, Calls Try.prog 33 #[.int .i64 s, .int .i64 n] w fun e w' => e = .returned (.int .i64 (shardV s n)) ∧ Below w.heap.size w w' := fun w => shard_any s n w
    have H := Lib.hid hs
    clear hs hs1 e1
    generalize shardV s n = k at b0 b1 H
    by_cases c : 1 < n
    · go_enter Try.func13, Try.ntmps13
      go_wp2_with fail
      refine (H.out _).mono ?_
      rintro e w1 ⟨rfl, hb1⟩
      go_wp2_with fail
      refine (H1.out _).mono ?_
      rintro e w2 ⟨rfl, hb2⟩
      go_wp2_with fail
      refine (live_true _).mono ?_
      rintro e w3 ⟨rfl, hb3⟩
      go_wp2_with fail
      go_ret
      exact ⟨rfl, chain (chain hb1 hb2) hb3⟩
    · have c0 : (k == 0) = true := by simp; omega
      go_enter Try.func13, Try.ntmps13
      go_wp2_with fail
      refine (H.out _).mono ?_
      rintro e w1 ⟨rfl, hb1⟩
      go_wp2_with fail
      refine (H1.out _).mono ?_
      rintro e w2 ⟨rfl, hb2⟩
      go_wp2_with fail
      refine (live_true _).mono ?_
      rintro e w3 ⟨rfl, hb3⟩
      go_wp2_with fail
      go_ret
      exact ⟨rfl, chain (chain hb1 hb2) hb3⟩
end Go.Proofs.Ythjlilepialmoaa.fnvShards
