/- The walk of hopperlaw09.LockTells. -/
import Derived.Test.YtjeghmlingfnjaaLockLive
namespace Go.Proofs.Ytjeghmlingfnjaa.lockTells
open Go.RowKit Sx lock
set_option linter.unusedVariables false
set_option linter.unusedSimpArgs false
set_option maxHeartbeats 4000000 in
set_option maxRecDepth 100000 in
theorem walk (a : Option Addr) (n c : Nat) (l : List Int) (i who : Int) (w : World) (hl : Sl a n c ∧ n = l.length ∧ At w (pt a n) (ic l) ∧ ∀ z ∈ l, Fits z) (hi : Fits i) (hw : Fits who) : Calls Try.prog 7 (List.toArray [.slice a n c, .int .i64 i, .int .i64 who]) w fun e w' =>  e = .returned (.bool true) ∧ Below w.heap.size w w' := by
  obtain ⟨hs, hn, hrow, hf⟩ := hl
  refine calls_of_exec env_ok Try.func7 rfl [] (by kernel_rfl) [rowF (pt a n) (ic l)] (at1 hrow) ?_
  (conv => arg 5; whnf)
  refine wp_br (fun h => ?_) (fun h => ?_)
  · (conv => arg 5; whnf)
    refine meetc (f := 29) (v := .bool true) rfl (by kernel_rfl) (fun β ρ w' hM' => live w') ?_
    (conv => arg 5; whnf)
    exact wp_back fun β ρ w' hM' => ⟨rfl, hM'.below⟩
  · have hl : l.length ≤ 1000000 := by simp at h; omega
    have HT := fun (w : World) hrow => take l a n c w i who hs hn hrow hl
    have HR := fun (w : World) hrow => rtake l a n c w i who hs hn hrow hl
    have GT := fun (w : World) hrow => give l a n c w i who hs hn hrow hl
    have GR := fun (w : World) hrow => rgive l a n c w i who hs hn hrow hl
    have HN := fun w => new_ i w
    have HM := fun w => rnew i w
    have HH := fun (w : World) hrow => held l a n c w who hs hn hrow hl
    have HI := fun (w : World) hrow => rheld l a n c w who hs hn hrow hl
    have l1 : n = (takeV l i who).length := by rw [take_length, hn]
    have l2 : n = (giveV l i who).length := by rw [give_length, hn]
    generalize takeV l i who = tV at *
    generalize takeE l i who = tE at *
    generalize giveV l i who = gV at *
    generalize giveE l i who = gE at *
    generalize newV i = nV at *
    generalize newE i = nE at *
    generalize heldV l who = hV at *
    (conv => arg 5; whnf)
    refine meet1 (f := 30) (n := n) (v := fun a1 c1 => .tuple #[.slice a1 n c1, .int .i64 tE]) (xs := ic tV) rfl (by kernel_rfl) (fun β ρ w' hM' => HT w' (hM'.at_ (.head _))) (fun a1 c_a1 h_a1 => ?_)
    (conv => arg 5; whnf)
    refine meetL (f := 31) (rowF (pt a n) (ic l)) (.tail _ (.head _)) (n := n) (v := fun a1 c1 => .tuple #[.slice a1 n c1, .int .i64 tE]) (xs := ic tV) rfl (by kernel_rfl) (fun β ρ w' hM' => HR w' (hM'.at_ (.tail _ (.head _)))) (fun a2 c_a2 h_a2 => ?_)
    (conv => arg 5; whnf)
    refine meet1 (f := 32) (n := n) (v := fun a1 c1 => .tuple #[.slice a1 n c1, .int .i64 gE]) (xs := ic gV) rfl (by kernel_rfl) (fun β ρ w' hM' => GT w' (hM'.at_ (.tail _ (.tail _ (.head _))))) (fun a3 c_a3 h_a3 => ?_)
    (conv => arg 5; whnf)
    refine meetL (f := 33) (rowF (pt a n) (ic l)) (.tail _ (.tail _ (.tail _ (.head _)))) (n := n) (v := fun a1 c1 => .tuple #[.slice a1 n c1, .int .i64 gE]) (xs := ic gV) rfl (by kernel_rfl) (fun β ρ w' hM' => GR w' (hM'.at_ (.tail _ (.tail _ (.tail _ (.head _)))))) (fun a4 c_a4 h_a4 => ?_)
    (conv => arg 5; whnf)
    refine meet1 (f := 34) (n := nV.length) (v := fun a1 c1 => .tuple #[.slice a1 nV.length c1, .int .i64 nE]) (xs := ic nV) rfl (by kernel_rfl) (fun β ρ w' hM' => HN w') (fun a5 c_a5 h_a5 => ?_)
    (conv => arg 5; whnf)
    refine meet1 (f := 35) (n := nV.length) (v := fun a1 c1 => .tuple #[.slice a1 nV.length c1, .int .i64 nE]) (xs := ic nV) rfl (by kernel_rfl) (fun β ρ w' hM' => HM w') (fun a6 c_a6 h_a6 => ?_)
    (conv => arg 5; whnf)
    refine meetc (f := 36) (v := .bool true) rfl (by kernel_rfl) (fun β ρ w' hM' => same tV a1 a2 n c_a1 c_a2 w' h_a1 h_a2 l1 (hM'.at_ (.tail _ (.tail _ (.tail _ (.tail _ (.tail _ (.head _))))))) (hM'.at_ (.tail _ (.tail _ (.tail _ (.tail _ (.head _))))))) ?_
    (conv => arg 5; whnf)
    refine wp_g0 (fun _ => ?_) (fun h => by simp at h)
    (conv => arg 5; whnf)
    refine meetc (f := 36) (v := .bool true) rfl (by kernel_rfl) (fun β ρ w' hM' => same gV a3 a4 n c_a3 c_a4 w' h_a3 h_a4 l2 (hM'.at_ (.tail _ (.tail _ (.tail _ (.head _))))) (hM'.at_ (.tail _ (.tail _ (.head _))))) ?_
    (conv => arg 5; whnf)
    refine wp_g0 (fun _ => ?_) (fun h => by simp at h)
    (conv => arg 5; whnf)
    refine meetc (f := 36) (v := .bool true) rfl (by kernel_rfl) (fun β ρ w' hM' => same nV a5 a6 nV.length c_a5 c_a6 w' h_a5 h_a6 rfl (hM'.at_ (.tail _ (.head _))) (hM'.at_ (.head _))) ?_
    (conv => arg 5; whnf)
    refine wp_br (fun h => by simp at h) (fun _ => ?_)
    (conv => arg 5; whnf)
    refine meetc (f := 37) (v := .bool (freeB l i)) rfl (by kernel_rfl) (fun β ρ w' hM' => free l a n c w' i hs hn (hM'.at_ (.tail _ (.tail _ (.tail _ (.tail _ (.tail _ (.tail _ (.head _))))))))) ?_
    (conv => arg 5; whnf)
    refine meetc (f := 38) (v := .bool (freeB l i)) rfl (by kernel_rfl) (fun β ρ w' hM' => rfree l a n c w' i hs hn (hM'.at_ (.tail _ (.tail _ (.tail _ (.tail _ (.tail _ (.tail _ (.head _))))))))) ?_
    (conv => arg 5; whnf)
    refine wp_prim (.bool true) (fun w => by cases freeB l i <;> rfl) ?_
    (conv => arg 5; whnf)
    refine meet1 (f := 39) (n := hV.length) (v := fun a1 c1 => .slice a1 hV.length c1) (xs := ic hV) rfl (by kernel_rfl) (fun β ρ w' hM' => HH w' (hM'.at_ (.tail _ (.tail _ (.tail _ (.tail _ (.tail _ (.tail _ (.head _))))))))) (fun a7 c_a7 h_a7 => ?_)
    (conv => arg 5; whnf)
    refine meet1 (f := 40) (n := hV.length) (v := fun a1 c1 => .slice a1 hV.length c1) (xs := ic hV) rfl (by kernel_rfl) (fun β ρ w' hM' => HI w' (hM'.at_ (.tail _ (.tail _ (.tail _ (.tail _ (.tail _ (.tail _ (.tail _ (.head _)))))))))) (fun a8 c_a8 h_a8 => ?_)
    (conv => arg 5; whnf)
    refine meetc (f := 36) (v := .bool true) rfl (by kernel_rfl) (fun β ρ w' hM' => same hV a7 a8 hV.length c_a7 c_a8 w' h_a7 h_a8 rfl (hM'.at_ (.tail _ (.head _))) (hM'.at_ (.head _))) ?_
    (conv => arg 5; whnf)
    refine meetc (f := 41) (v := .int .i64 (firstV l who : Nat)) rfl (by kernel_rfl) (fun β ρ w' hM' => first l a n c w' who hs hn (hM'.at_ (.tail _ (.tail _ (.tail _ (.tail _ (.tail _ (.tail _ (.tail _ (.tail _ (.head _))))))))))) ?_
    (conv => arg 5; whnf)
    refine meetc (f := 42) (v := .int .i64 (firstV l who : Nat)) rfl (by kernel_rfl) (fun β ρ w' hM' => rfirst l a n c w' who hs hn (hM'.at_ (.tail _ (.tail _ (.tail _ (.tail _ (.tail _ (.tail _ (.tail _ (.tail _ (.head _))))))))))) ?_
    (conv => arg 5; whnf)
    refine wp_g1 (fun _ => ?_) (fun h => by simp at h)
    (conv => arg 5; whnf)
    refine meetc (f := 29) (v := .bool true) rfl (by kernel_rfl) (fun β ρ w' hM' => live w') ?_
    (conv => arg 5; whnf)
    exact wp_back fun β ρ w' hM' => ⟨rfl, hM'.below⟩
end Go.Proofs.Ytjeghmlingfnjaa.lockTells
