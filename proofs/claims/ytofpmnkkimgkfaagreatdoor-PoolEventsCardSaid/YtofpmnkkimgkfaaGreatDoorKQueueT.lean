/- Layer 5 (queue): the document's Ready, Check and Place. -/
import Derived.Test.YtofpmnkkimgkfaaGreatDoorKQueueS
set_option linter.all false
set_option maxHeartbeats 4000000
set_option maxRecDepth 100000
namespace Go.Proofs.YtofpmnkkimgkfaaGreatDoor.queue
open Go.RowKit Sx txn
def lo_ (b : Int) (l : List Tx) (k : Nat) : Int := match k with | 0 => b | k + 1 => match l[k]? with | some x => x.n + 1 | none => b
theorem lo_zero (b : Int) (l : List Tx) : lo_ b l 0 = b := rfl
theorem lo_succ (b : Int) {l : List Tx} {k : Nat} {x : Tx} (h : l[k]? = some x) : lo_ b l (k + 1) = x.n + 1 := by
 show (match l[k]? with | some x => x.n + 1 | none => b) = _
 rw [h]
theorem chk_out (s b per : Int) (l : List Tx) (h : ¬ (0 ≤ s ∧ s ≤ 255 ∧ 0 ≤ b ∧ b ≤ 4294967295 ∧ 1 ≤ per ∧ per ≤ 16 ∧ (l.length : Int) ≤ per)) : checkV s b per l = false := by
 cases h2 : checkV s b per l with
 | false => rfl
 | true =>
  exfalso
  unfold checkV inB at h2
  simp at h2
  omega
theorem rcheck_ (s b per : Int) (l : List Tx) (a : Option Addr) (n c : Nat) (w : World) (hM : Most w) (hs : Sl a n c) (hn : n = l.length) (hrow : At w (pt a n) (cellsL l)) :
  Calls Tryz.prog 69 (List.toArray [acc s b a n c, .int .i64 per]) w fun e w' => e = .returned (.bool (checkV s b per l)) ∧ Below w.heap.size w w' := by
 have hn63 := hs.le
 refine calls_of_exec env_ok Tryz.func69 rfl [(7, (line [0, 1, 2, 3, 4, 5, 6, 7, 8, 9, 10, 11, 12, 13, 14, 15, 16, 17, 18, 19, 20, 21, 22, 23, 24, 25, 26, 27, 28, 29, 30, 31, 32], []))] (by kernel_rfl) [rowF (pt a n) (cellsL l)] (at1 hrow) ?_
 conv=>arg 5;whnf
 refine wp_br (fun g1 => ?_) (fun g1 => ?_)
 rotate_left
 ·have hout := chk_out s b per l (by simp at g1; omega)
  conv=>arg 5;whnf
  exact wp_back fun β ρ w' hM' => ⟨by rw [hout]; rfl, hM'.below⟩
 conv=>arg 5;whnf
 refine wp_br (fun g2 => ?_) (fun g2 => ?_)
 rotate_left
 ·have hout := chk_out s b per l (by simp at g2; omega)
  conv=>arg 5;whnf
  exact wp_back fun β ρ w' hM' => ⟨by rw [hout]; rfl, hM'.below⟩
 conv=>arg 5;whnf
 refine wp_br (fun g3 => ?_) (fun g3 => ?_)
 rotate_left
 ·have hout := chk_out s b per l (by simp at g3; omega)
  conv=>arg 5;whnf
  exact wp_back fun β ρ w' hM' => ⟨by rw [hout]; rfl, hM'.below⟩
 conv=>arg 5;whnf
 refine wp_br (fun g4 => ?_) (fun g4 => ?_)
 rotate_left
 ·have hout := chk_out s b per l (by simp at g4; omega)
  conv=>arg 5;whnf
  exact wp_back fun β ρ w' hM' => ⟨by rw [hout]; rfl, hM'.below⟩
 conv=>arg 5;whnf
 refine wp_br (fun g5 => ?_) (fun g5 => ?_)
 rotate_left
 ·have hout := chk_out s b per l (by simp at g5; omega)
  conv=>arg 5;whnf
  exact wp_back fun β ρ w' hM' => ⟨by rw [hout]; rfl, hM'.below⟩
 conv=>arg 5;whnf
 refine wp_br (fun g6 => ?_) (fun g6 => ?_)
 rotate_left
 ·have hout := chk_out s b per l (by simp at g6; omega)
  conv=>arg 5;whnf
  exact wp_back fun β ρ w' hM' => ⟨by rw [hout]; rfl, hM'.below⟩
 conv=>arg 5;whnf
 refine wp_br (fun g7 => ?_) (fun g7 => ?_)
 ·have hout := chk_out s b per l (by simp at g7; omega)
  conv=>arg 5;whnf
  exact wp_back fun β ρ w' hM' => ⟨by rw [hout]; rfl, hM'.below⟩
 have hin : checkV s b per l = risesV s b l := by
  unfold checkV inB
  simp at g1 g2 g3 g4 g5 g6 g7
  have h1 : decide (0 ≤ s) = true := by simp; omega
  have h2 : decide (s ≤ 255) = true := by simp; omega
  have h3 : decide (0 ≤ b) = true := by simp; omega
  have h4 : decide (b ≤ 4294967295) = true := by simp; omega
  have h5 : decide (1 ≤ per) = true := by simp; omega
  have h6 : decide (per ≤ 16) = true := by simp; omega
  have h7 : decide ((l.length : Int) ≤ per) = true := by simp; omega
  rw [h1, h2, h3, h4, h5, h6, h7]
  rfl
 rw [hin]
 conv=>arg 5;whnf
 refine loop_rule env_ok [(7, (line [0, 1, 2, 3, 4, 5, 6, 7, 8, 9, 10, 11, 12, 13, 14, 15, 16, 17, 18, 19, 20, 21, 22, 23, 24, 25, 26, 27, 28, 29, 30, 31, 32], []))] (by kernel_rfl) (fun k : Nat => k ≤ n ∧ risesV s b l = risesV s (lo_ b l k) (l.drop k) ∧ b ≤ lo_ b l k) (fun k => (⟨[some ([.v (.int .i64 s), .v (.int .i64 b), .v (.slice a n c)], 65)], [], [rowF (pt a n) (cellsL l)]⟩, sl 85 [(1, .v (.int .i64 per)), (2, .p 0 0), (4, .v (.bool false)), (5, .v (.int .i64 k))])) (fun k => n - k) 0 (⟨Nat.zero_le _, rfl, Int.le_refl _⟩) ⟨by repeat' first | exact trivial | refine ⟨.inl rfl, ?_⟩ | refine ⟨.inr rfl, ?_⟩, ⟨by repeat' first | exact trivial | refine ⟨.inl rfl, ?_⟩ | refine ⟨.inr rfl, ?_⟩, by repeat' first | exact trivial | refine ⟨.inl rfl, ?_⟩ | refine ⟨.inr rfl, ?_⟩, fun _ h => h⟩, rfl⟩ ?_
 rintro k ⟨hk, hr, hlo⟩
 conv=>arg 5;whnf
 refine wp_br (fun h1 => ?_) (fun h1 => ?_)
 ·have hlt : k < n := by simp at h1; omega
  have hx : l[k]? = some l[k] := List.getElem?_eq_getElem (by omega)
  generalize l[k] = x at hx
  rw [risesV_drop s l k x _ hx] at hr
  conv=>arg 5;whnf
  refine wp_must ⟨by omega, by omega, hs.some hlt⟩ ?_
  conv=>arg 5;whnf
  refine readX (l := l) (k := k) rfl (List.mem_cons_self) hlt (hs.some hlt) hx rfl ?_
  conv=>arg 5;whnf
  refine meet (.bool x.ok) (by kernel_rfl) (fun β ρ w' vs hM' hR => ?_) ?_
  ·obtain rfl := Rels.vals_eq (l := [x.val]) hR
   exact rcheck x w'
  conv=>arg 5;whnf
  refine wp_br (fun h2 => ?_) (fun h2 => ?_)
  ·have h2 : x.ok = true := by simpa using h2
   have hxo := h2
   simp only [Tx.ok, decide_eq_true_eq] at hxo
   rw [h2, Bool.true_and] at hr
   conv=>arg 5;whnf
   refine wp_br (fun h3 => ?_) (fun h3 => ?_)
   ·have h3 : (x.s == s) = true := by simpa using h3
    rw [h3, Bool.true_and] at hr
    conv=>arg 5;whnf
    refine wp_br (fun h4 => ?_) (fun h4 => ?_)
    ·have h4 : b ≤ x.n := by simpa using h4
     have hlo1 : b ≤ lo_ b l (k + 1) := by rw [lo_succ b hx]; omega
     have hlo2 : lo_ b l (k + 1) = x.n + 1 := lo_succ b hx
     cases k with
     | zero =>
      have h6 : decide (x.n < lo_ b l 0) = false := by rw [lo_zero]; simp; omega
      rw [h6] at hr
      have hr : risesV s b l = risesV s (lo_ b l (0 + 1)) (l.drop (0 + 1)) := by rw [hlo2]; exact hr
      conv=>arg 5;whnf
      refine wp_must ⟨by omega, by omega⟩ ?_
      conv=>arg 5;whnf
      refine wp_end ⟨0 + 1, ⟨hlt, hr, hlo1⟩, ⟨by repeat' first | exact trivial | refine ⟨.inl rfl, ?_⟩ | refine ⟨.inr rfl, ?_⟩, ⟨by repeat' first | exact trivial | refine ⟨.inl rfl, ?_⟩ | refine ⟨.inr rfl, ?_⟩, by repeat' first | exact trivial | refine ⟨.inl rfl, ?_⟩ | refine ⟨.inr rfl, ?_⟩, fun _ h => h⟩, rfl⟩, by show n - (0 + 1) < n - 0; omega⟩
     | succ j =>
      have hy : l[j]? = some l[j] := List.getElem?_eq_getElem (by omega)
      have hlj : lo_ b l (j + 1) = l[j].n + 1 := lo_succ b hy
      generalize l[j] = z at hy hlj
      conv=>arg 5;whnf
      refine wp_br (fun h5 => ?_) (fun h5 => absurd h5 (by simp <;> omega))
      conv=>arg 5;whnf
      refine wp_must ⟨by omega, by omega⟩ ?_
      conv=>arg 5;whnf
      refine wp_must ⟨by omega, by omega, hs.some hlt⟩ ?_
      conv=>arg 5;whnf
      refine read1 (l := l) (k := j) (.int .i64 z.n) rfl (List.mem_cons_self) (n := n) (by omega) (hs.some hlt) hy (f := 1) rfl (by rw [show (((j + 1 : Nat) : Int) - 1).toNat = j from by omega]) ?_
      conv=>arg 5;whnf
      refine wp_br (fun h6 => ?_) (fun h6 => ?_)
      ·have h6 : x.n ≤ z.n := by simpa using h6
       have h7 : decide (x.n < lo_ b l (j + 1)) = true := by rw [hlj]; simp; omega
       conv=>arg 5;whnf
       exact wp_back fun β ρ w' hM' => ⟨by rw [hr, h7]; rfl, hM'.below⟩
      ·have h6 : z.n < x.n := by simpa using h6
       have h7 : decide (x.n < lo_ b l (j + 1)) = false := by rw [hlj]; simp; omega
       rw [h7] at hr
       have hr : risesV s b l = risesV s (lo_ b l (j + 1 + 1)) (l.drop (j + 1 + 1)) := by rw [hlo2]; exact hr
       conv=>arg 5;whnf
       refine wp_must ⟨by omega, by omega⟩ ?_
       conv=>arg 5;whnf
       refine wp_end ⟨j + 1 + 1, ⟨hlt, hr, hlo1⟩, ⟨by repeat' first | exact trivial | refine ⟨.inl rfl, ?_⟩ | refine ⟨.inr rfl, ?_⟩, ⟨by repeat' first | exact trivial | refine ⟨.inl rfl, ?_⟩ | refine ⟨.inr rfl, ?_⟩, by repeat' first | exact trivial | refine ⟨.inl rfl, ?_⟩ | refine ⟨.inr rfl, ?_⟩, fun _ h => h⟩, rfl⟩, by show n - (j + 1 + 1) < n - (j + 1); omega⟩
    ·have h4 : x.n < b := by simpa using h4
     have h7 : decide (x.n < lo_ b l k) = true := by simp; omega
     conv=>arg 5;whnf
     exact wp_back fun β ρ w' hM' => ⟨by rw [hr, h7]; rfl, hM'.below⟩
   ·have h3 : (x.s == s) = false := by simpa using h3
    conv=>arg 5;whnf
    exact wp_back fun β ρ w' hM' => ⟨by rw [hr, h3]; rfl, hM'.below⟩
  ·have h2 : x.ok = false := by simpa using h2
   conv=>arg 5;whnf
   exact wp_back fun β ρ w' hM' => ⟨by rw [hr, h2]; rfl, hM'.below⟩
 ·rw [List.drop_eq_nil_of_le (by simp at h1; omega)] at hr
  conv=>arg 5;whnf
  exact wp_back fun β ρ w' hM' => ⟨by rw [hr]; rfl, hM'.below⟩
end Go.Proofs.YtofpmnkkimgkfaaGreatDoor.queue
