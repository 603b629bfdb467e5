/- The walk of hopperlaw05.QueueTells. -/
import Derived.Test.YtjejjgoagjkfdaaDoorQueueLive
import Derived.Test.YtjejjgoagjkfdaaDoorQueueOpen
namespace Go.Proofs.YtjejjgoagjkfdaaDoor.queueTells
open Go.RowKit Sx txn queue
set_option linter.unusedVariables false
set_option linter.unusedSimpArgs false
set_option maxHeartbeats 4000000 in
set_option maxRecDepth 100000 in
theorem walk (s b : Int) (a : Option Addr) (n c : Nat) (l : List Tx) (per nonce : Int) (w : World) (hM : Most w) (h : Sl a n c ∧ n = l.length ∧ At w (pt a n) (cellsL l) ∧ (∀ x ∈ l, Tx.fits x) ∧ Fits s ∧ Fits b) (hp : Fits per) (hno : Fits nonce) : Calls Tryd.prog 3 (List.toArray [.agg #[.int .i64 s, .int .i64 b, .slice a n c], .int .i64 per, .int .i64 nonce]) w fun e w' =>  e = .returned (.bool true) ∧ Below w.heap.size w w' := by
  obtain ⟨hs, hn, hrow, hft, hfs, hfb⟩ := h
  have hd : ∀ x ∈ l, x.d.size ≤ maxLen := fun x hx => (hft x hx).2.2.2.2.2
  refine calls_of_exec env_ok.keeps Tryd.func3 rfl [(5, (line [0, 1, 3, 4, 2, 5, 6, 7, 8, 9, 10, 11, 12, 13, 14, 15, 16, 17, 18, 20, 19, 21, 22, 23, 24, 25, 27, 26, 28, 29, 30, 31, 32, 33, 34], []))] (schedQ_ok _ _ (by kernel_rfl)) [rowF (pt a n) (cellsL l)] (at1 hrow) ?_
  (conv => arg 5; whnf)
  refine meetc (f := 16) (v := .bool (fewB l && decide ((n : Int) ≤ 30))) rfl (by kernel_rfl) (fun β ρ w' hM' => rsmallA s b l a n c w' hs hn (hM'.at_ (.head _))) ?_
  (conv => arg 5; whnf)
  refine wp_br (fun hsm => ?_) (fun hsm => ?_)
  · (conv => arg 5; whnf)
    refine meetc (f := 17) (v := .bool true) rfl (by kernel_rfl) (fun β ρ w' hM' => live w' (hM.later hM'.below)) ?_
    (conv => arg 5; whnf)
    exact wp_back fun β ρ w' hM' => ⟨rfl, hM'.below⟩
  · have hl : l.length ≤ 30 := by simp at hsm; omega
    have F1 := fun w hr => find s b l a n c nonce w hs hn hr
    have F2 := fun w hr => rfind s b l a n c nonce w hs hn hr
    have C1 := fun w hM hr => check_ s b per l a n c w hM hs hn hr
    have C2 := fun w hM hr => rcheck_ s b per l a n c w hM hs hn hr
    have R1 := fun w hr => ready s b l a n c w hs hn hr (by omega)
    have R2 := fun w hr => rready s b l a n c w hs hn hr (by omega)
    have S1 := fun w hM hr => slots_ s b l a n c w hM hs hn hr hd (by omega)
    have S2 := fun w hr => rslots_ s b l a n c w hs hn hr hd (by omega)
    generalize findV l nonce = fv at F1 F2
    generalize readyV b l = ry at R1 R2
    generalize slotsL l = sl at S1 S2
    obtain ⟨x, hb⟩ := fv
    generalize checkV s b per l = ck at C1 C2
    (conv => arg 5; whnf)
    refine meetc (f := 18) (v := .tuple #[x.val, .bool hb]) rfl (by kernel_rfl) (fun β ρ w' hM' => F1 w' (hM'.at_ (.head _))) ?_
    (conv => arg 5; whnf)
    refine meetc (f := 19) (v := .tuple #[x.val, .bool hb]) rfl (by kernel_rfl) (fun β ρ w' hM' => F2 w' (hM'.at_ (.head _))) ?_
    (conv => arg 5; whnf)
    refine meetc (f := 20) (v := .bool ck) rfl (by kernel_rfl) (fun β ρ w' hM' => C1 w' (hM.later hM'.below) (hM'.at_ (.head _))) ?_
    (conv => arg 5; whnf)
    refine meetc (f := 21) (v := .bool ck) rfl (by kernel_rfl) (fun β ρ w' hM' => C2 w' (hM.later hM'.below) (hM'.at_ (.head _))) ?_
    (conv => arg 5; whnf)
    refine wp_prim (.bool true) (fun w => by cases ck <;> rfl) ?_
    (conv => arg 5; whnf)
    refine wp_prim (.bool true) (fun w => eq_same' _ _ x w) ?_
    (conv => arg 5; whnf)
    refine wp_prim (.bool true) (fun w => by cases hb <;> rfl) ?_
    (conv => arg 5; whnf)
    refine meet1' (f := 23) (n := ry.length) (v := fun a1 c1 => .slice a1 ry.length c1) (xs := cellsL ry) rfl (by kernel_rfl) (fun β ρ w' hM' => R1 w' (hM'.at_ (.head _))) (fun p c_p h_p => ?_)
    (conv => arg 5; whnf)
    refine meet1' (f := 24) (n := ry.length) (v := fun a1 c1 => .slice a1 ry.length c1) (xs := cellsL ry) rfl (by kernel_rfl) (fun β ρ w' hM' => R2 w' (hM'.at_ (.tail _ (.head _)))) (fun q c_q h_q => ?_)
    (conv => arg 5; whnf)
    refine meetc (f := 22) (v := .bool true) rfl (by kernel_rfl) (fun β ρ w' hM' => rtxs ry p ry.length c_p q c_q w' h_p rfl (hM'.at_ (.tail _ (.head _))) h_q (hM'.at_ (.head _))) ?_
    (conv => arg 5; whnf)
    refine meetc (f := 25) (v := .int .i64 sl) rfl (by kernel_rfl) (fun β ρ w' hM' => S1 w' (hM.later hM'.below) (hM'.at_ (.tail _ (.tail _ (.head _))))) ?_
    (conv => arg 5; whnf)
    refine meetc (f := 26) (v := .int .i64 sl) rfl (by kernel_rfl) (fun β ρ w' hM' => S2 w' (hM'.at_ (.tail _ (.tail _ (.head _))))) ?_
    (conv => arg 5; whnf)
    refine wp_g1 (fun _ => ?_) (fun h => by simp at h)
    (conv => arg 5; whnf)
    refine meetc (f := 17) (v := .bool true) rfl (by kernel_rfl) (fun β ρ w' hM' => live w' (hM.later hM'.below)) ?_
    (conv => arg 5; whnf)
    exact wp_back fun β ρ w' hM' => ⟨rfl, hM'.below⟩
end Go.Proofs.YtjejjgoagjkfdaaDoor.queueTells
