/- The walk of hopperlaw10.TurnTells. -/
import Derived.Test.YtjeghmlingfnjaaTurnLive
namespace Go.Proofs.Ytjeghmlingfnjaa.turnTells
open Go.RowKit Sx turn
set_option linter.unusedVariables false
set_option linter.unusedSimpArgs false
set_option maxHeartbeats 4000000 in
set_option maxRecDepth 100000 in
theorem walk (a : Option Addr) (n c : Nat) (bs : List Bool) (m last : Int) (w : World) (hl : Sl a n c ∧ n = bs.length ∧ At w (pt a n) (bs.map Value.bool)) (hm : Fits m) (hi : Fits last) : Calls Try.prog 11 (List.toArray [.slice a n c, .int .i64 m, .int .i64 last]) w fun e w' =>  e = .returned (.bool true) ∧ Below w.heap.size w w' := by
  obtain ⟨hs, hn, hrow⟩ := hl
  refine calls_of_exec env_ok Try.func11 rfl [] (by kernel_rfl) [rowF (pt a n) (bc bs)] (at1 hrow) ?_
  (conv => arg 5; whnf)
  refine wp_br (fun h => ?_) (fun h => ?_)
  · (conv => arg 5; whnf)
    refine meetc (f := 43) (v := .bool true) rfl (by kernel_rfl) (fun β ρ w' hM' => live w') ?_
    (conv => arg 5; whnf)
    exact wp_back fun β ρ w' hM' => ⟨rfl, hM'.below⟩
  · have hl : bs.length ≤ 1000000 := by simp at h; omega
    have C1 := fun (w : World) hr => countE bs a n c _ w hs hn hl rfl hr
    have C2 := fun (w : World) hr => rcount bs a n c w hs hn hr hl
    have P1 := fun (w : World) hr => pickE bs a n c m _ w hm hs hn hl rfl hr
    have P2 := fun (w : World) hr => rpick bs a n c m w hm hs hn hr hl
    have N1 := fun (w : World) hr => nextE bs a n c last _ w hs hn hl rfl hr
    have N2 := fun (w : World) hr => rnext bs a n c last w hs hn hr hl
    have R1 := fun (w : World) hr => roundsE bs a n c last m _ w hm hs hn hl rfl hr
    have R2 := fun (w : World) hr => rrounds bs a n c last m w hm hs hn hr hl
    generalize (((ups bs).length : Nat) : Int) = k at *
    generalize pck bs m = p at *
    generalize nxt bs last = x at *
    generalize rnds bs last m = r at *
    (conv => arg 5; whnf)
    refine meetc (f := 44) (v := .int .i64 k) rfl (by kernel_rfl) (fun β ρ w' hM' => C1 w' (hM'.at_ (.head _))) ?_
    (conv => arg 5; whnf)
    refine meetc (f := 45) (v := .int .i64 k) rfl (by kernel_rfl) (fun β ρ w' hM' => C2 w' (hM'.at_ (.head _))) ?_
    (conv => arg 5; whnf)
    refine wp_g1 (fun _ => ?_) (fun h => by simp at h)
    (conv => arg 5; whnf)
    refine meetc (f := 46) (v := .int .i64 p) rfl (by kernel_rfl) (fun β ρ w' hM' => P1 w' (hM'.at_ (.head _))) ?_
    (conv => arg 5; whnf)
    refine meetc (f := 47) (v := .int .i64 p) rfl (by kernel_rfl) (fun β ρ w' hM' => P2 w' (hM'.at_ (.head _))) ?_
    (conv => arg 5; whnf)
    refine wp_g1 (fun _ => ?_) (fun h => by simp at h)
    (conv => arg 5; whnf)
    refine meetc (f := 48) (v := .int .i64 x) rfl (by kernel_rfl) (fun β ρ w' hM' => N1 w' (hM'.at_ (.head _))) ?_
    (conv => arg 5; whnf)
    refine meetc (f := 49) (v := .int .i64 x) rfl (by kernel_rfl) (fun β ρ w' hM' => N2 w' (hM'.at_ (.head _))) ?_
    (conv => arg 5; whnf)
    refine wp_g1 (fun _ => ?_) (fun h => by simp at h)
    (conv => arg 5; whnf)
    refine meetM r.length (ic r) rfl (by kernel_rfl) (fun β ρ w' hM' => R1 w' (hM'.at_ (.head _))) ?_
    (conv => arg 5; whnf)
    refine meet1 (f := 51) (n := r.length) (v := fun a1 c1 => .slice a1 r.length c1) (xs := ic r) rfl (by kernel_rfl) (fun β ρ w' hM' => R2 w' (hM'.at_ (.head _))) (fun b c_b h_b => ?_)
    (conv => arg 5; whnf)
    refine wp_share fun y c_y h_y f_y => ?_
    (conv => arg 5; whnf)
    refine meetc (f := 36) (v := .bool true) rfl (by kernel_rfl) (fun β ρ w' hM' => sameT r y b r.length c_y c_b w' h_y h_b rfl ((hM'.at_ (.head _)).pt _) (hM'.at_ (.tail _ (.head _)))) ?_
    (conv => arg 5; whnf)
    refine meetc (f := 43) (v := .bool true) rfl (by kernel_rfl) (fun β ρ w' hM' => live w') ?_
    (conv => arg 5; whnf)
    exact wp_back fun β ρ w' hM' => ⟨rfl, hM'.below⟩
end Go.Proofs.Ytjeghmlingfnjaa.turnTells
