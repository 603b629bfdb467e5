/- What hopperlaw02's own examples come to: live answers true. -/
import Derived.Test.YthjlilepialmoaaFnv
namespace Go.Proofs.Ythjlilepialmoaa.fnv
open Go.RowKit
set_option linter.unusedVariables false

theorem of_lit (l : List UInt8) (v : Int) (w : World) (hl : l.length ≤ 100) (h : hof l = v) :
    Calls Try.prog 27 #[.string ⟨l.toArray⟩] w fun e w' => e = .returned (.int .u64 v) ∧ w = w' := by
  subst h
  exact of_any ⟨l.toArray⟩ w (by unfold maxLen; show l.length ≤ _; omega)

theorem text_af (w : World) : Calls Try.prog 31 #[.int .u64 175] w fun e w' => e = .returned (.string ⟨#[48, 48, 48, 48, 48, 48, 48, 48, 48, 48, 48, 48, 48, 48, 97, 102]⟩) ∧ Below w.heap.size w w' := by
  have h := text 175 w (by omega)
  rw [show (digits 16 175).toArray = #[48, 48, 48, 48, 48, 48, 48, 48, 48, 48, 48, 48, 48, 48, 97, 102] from by decide] at h
  exact h

theorem shard_71 (w : World) : Calls Try.prog 33 #[.int .i64 7, .int .i64 1] w fun e w' => e = .returned (.int .i64 0) ∧ Below w.heap.size w w' := by
  have h := shard_any 7 1 w
  rw [show shardV 7 1 = 0 from by unfold shardV; rw [if_pos (by omega)]; omega] at h
  exact h

set_option maxHeartbeats 1000000 in
set_option maxRecDepth 100000 in
theorem live_true (w : World) :
    Calls Try.prog 26 #[] w fun e w' => e = .returned (.bool true) ∧ Below w.heap.size w w' := by
  go_enter Try.func26, Try.ntmps26
  go_wp2_with fail
  refine (of_lit [] 14695981039346656037 _ (by decide) (by decide +kernel)).mono ?_
  rintro e w' ⟨rfl, rfl⟩
  go_wp2_with fail
  refine (of_lit [97] 12638187200555641996 _ (by decide) (by decide +kernel)).mono ?_
  rintro e w' ⟨rfl, rfl⟩
  go_wp2_with fail
  refine (of_lit [102, 111, 111, 98, 97, 114] 9625390261332436968 _ (by decide) (by decide +kernel)).mono ?_
  rintro e w' ⟨rfl, rfl⟩
  go_wp2_with fail
  refine (text_af _).mono ?_
  rintro e w1 ⟨rfl, hb1⟩
  go_wp2_with fail
  refine (shard_71 _).mono ?_
  rintro e w2 ⟨rfl, hb2⟩
  go_wp2_with fail
  refine (shard_no 256 2 _ (by omega)).mono ?_
  rintro e w' ⟨rfl, rfl⟩
  go_wp2_with fail
  refine (shard_no 0 9 _ (by omega)).mono ?_
  rintro e w' ⟨rfl, rfl⟩
  go_wp2_with fail
  go_ret
  exact ⟨rfl, hb1.trans (hb2.mono hb1.size)⟩
end Go.Proofs.Ythjlilepialmoaa.fnv
