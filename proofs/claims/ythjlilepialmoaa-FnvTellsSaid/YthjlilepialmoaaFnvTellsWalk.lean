import Derived.Test.YthjlilepialmoaaFnvLive
import Derived.Test.YthjlilepialmoaaFnvFacts
import Derived.Test.YthjlilepialmoaaFnvShardsWalk
import Derived.Deep.RegionHeld3
namespace Go.Proofs.Ythjlilepialmoaa.fnvTells
open Go.RowKit Go.ChangeShapes Go.WideShapes fnv
set_option linter.unusedVariables false

def S3 (n : Nat) (x y : Int) (w w' : World) : Prop := w'.cell? ⟨n, 0, none⟩ = some (.int .i64 x) ∧ w'.cell? ⟨n, 1, none⟩ = some (.int .i64 y) ∧ Below w.heap.size w w'

theorem keep_step {n : Nat} {x y : Int} {w w1 w2 : World} (h : w1.cell? ⟨n, 0, none⟩ = some (.int .i64 x) ∧ w1.cell? ⟨n, 1, none⟩ = some (.int .i64 y) ∧ Below w.heap.size w w1) (hb : Below w1.heap.size w1 w2) :
    w2.cell? ⟨n, 0, none⟩ = some (.int .i64 x) ∧ w2.cell? ⟨n, 1, none⟩ = some (.int .i64 y) ∧ Below w.heap.size w w2 :=
  ⟨cell_later hb h.1, cell_later hb h.2.1, fnvShards.chain h.2.2 hb⟩

theorem keep_drew {n : Nat} {x y : Int} {w w1 : World} (h : w1.cell? ⟨n, 0, none⟩ = some (.int .i64 x) ∧ w1.cell? ⟨n, 1, none⟩ = some (.int .i64 y) ∧ Below w.heap.size w w1) :
    w1.drew.cell? ⟨n, 0, none⟩ = some (.int .i64 x) ∧ w1.drew.cell? ⟨n, 1, none⟩ = some (.int .i64 y) ∧ Below w.heap.size w w1.drew := ⟨h.1, h.2.1, h.2.2.drew⟩

theorem walk (h : Int) (s : ByteArray) (x y : Int) (w : World) (wh : (Lit.int .u64 h).wf = true) (ws : s.size ≤ maxLen) (_ : (Lit.int .i64 x).wf = true ∧ (Lit.int .i64 y).wf = true) :
    Calls Try.prog 10 #[.int .u64 h, .string s, .agg #[.int .i64 x, .int .i64 y]] w fun e w' => e = .returned (.bool true) ∧ Below w.heap.size w w' := by
  have fh := bounds_u64 wh
  obtain ⟨m, rfl⟩ := Int.eq_ofNat_of_zero_le fh.1
  have hsz := ws
  unfold maxLen at hsz
  have W := Lib.hid ws
  clear ws wh
  by_cases c : 70000 < s.size
  · go_enter Try.func10, Try.ntmps10
    go_wp2_with fail
    refine (live_true _).mono ?_
    rintro e w1 ⟨rfl, hb⟩
    go_wp2_with fail
    go_ret
    exact ⟨rfl, ((Below.refl _ _).alloc (Nat.le_refl _) _).trans (hb.mono (by simp))⟩
  · go_enter Try.func10, Try.ntmps10
    go_wp2_with fail
    have S0 : (w.alloc (.cells #[.int .i64 x, .int .i64 y] 29 (0, 0))).cell? ⟨w.heap.size, 0, none⟩ = some (.int .i64 x) ∧ (w.alloc (.cells #[.int .i64 x, .int .i64 y] 29 (0, 0))).cell? ⟨w.heap.size, 1, none⟩ = some (.int .i64 y) ∧ Below w.heap.size w (w.alloc (.cells #[.int .i64 x, .int .i64 y] 29 (0, 0))) :=
      ⟨by simp, by simp, (Below.refl _ _).alloc (Nat.le_refl _) _⟩
    generalize w.alloc (.cells #[.int .i64 x, .int .i64 y] 29 (0, 0)) = w0 at S0 ⊢
    go_region_held3 (fun w' => w'.cell? ⟨w.heap.size, 0, none⟩ = some (.int .i64 x) ∧ w'.cell? ⟨w.heap.size, 1, none⟩ = some (.int .i64 y) ∧ Below w.heap.size w w')
      (first | assumption | (exact keep_drew (by assumption)) | (exact keep_step (by assumption) (by assumption)) | go_keep)
      (first
        | (go_at_call 27; refine (of_any s _ W.out).mono ?_; rintro e w' ⟨rfl, rfl⟩)
        | (go_at_call 28; refine (rof_any s _ W.out).mono ?_; rintro e w' ⟨rfl, rfl⟩)
        | (go_at_call 29; refine (roll m s _ W.out).mono ?_; rintro e w' ⟨rfl, rfl⟩)
        | (go_at_call 30; refine (rroll m s _ W.out).mono ?_; rintro e w' ⟨rfl, rfl⟩)
        | (go_at_call 31; refine (text m _ (by omega)).mono ?_; rintro e w1 ⟨rfl, hb1⟩)
        | (go_at_call 32; refine (rtext m _ (by omega)).mono ?_; rintro e w' ⟨rfl, rfl⟩)
        | (go_at_call 33; refine (shard_any x y _).mono ?_; rintro e w2 ⟨rfl, hb2⟩)
        | (go_at_call 34; refine (rshard_any x y _).mono ?_; rintro e w3 ⟨rfl, hb3⟩)
        | (go_at_call 26; refine (live_true _).mono ?_; rintro e w4 ⟨rfl, hb4⟩))
    have hf : w4.cell? ⟨w.heap.size, 0, none⟩ = some (.int .i64 x) ∧ w4.cell? ⟨w.heap.size, 1, none⟩ = some (.int .i64 y) ∧ Below w.heap.size w w4 := by assumption
    go_wp2_with fail
    go_ret
    exact ⟨rfl, hf.2.2⟩
end Go.Proofs.Ythjlilepialmoaa.fnvTells
