/- hopperlaw10's own answers. -/
import Derived.Test.YtjeghmlingfnjaaTurnRef
import Derived.Test.YtjeghmlingfnjaaLockB
import Derived.Test.YtjeghmlingfnjaaShape
namespace Go.Proofs.Ytjeghmlingfnjaa.turn
open Go.RowKit Sx
set_option linter.unusedVariables false
set_option linter.unusedSimpArgs false
theorem countE (bs : List Bool) (a : Option Addr) (n c : Nat) (v : Int) (w : World) (hs : Sl a n c) (hn : n = bs.length) (hlen : bs.length ≤ 1000000) (e : (((ups bs).length : Nat) : Int) = v) (hrow : At w (pt a n) (bc bs)) : Calls Try.prog 44 (List.toArray [.slice a n c]) w fun e w' =>  e = .returned (.int .i64 v) ∧ Below w.heap.size w w' := by
  subst hn e
  exact count a bs c (by omega) w (row_of hs rfl hrow)
theorem pickE (bs : List Bool) (a : Option Addr) (n c : Nat) (m v : Int) (w : World) (hm : Fits m) (hs : Sl a n c) (hn : n = bs.length) (hlen : bs.length ≤ 1000000) (e : pck bs m = v) (hrow : At w (pt a n) (bc bs)) : Calls Try.prog 46 (List.toArray [.slice a n c, .int .i64 m]) w fun e w' =>  e = .returned (.int .i64 v) ∧ Below w.heap.size w w' := by
  subst hn e
  exact pick a bs c m hm (by omega) w (row_of hs rfl hrow)
theorem nextE (bs : List Bool) (a : Option Addr) (n c : Nat) (last v : Int) (w : World) (hs : Sl a n c) (hn : n = bs.length) (hlen : bs.length ≤ 1000000) (e : nxt bs last = v) (hrow : At w (pt a n) (bc bs)) : Calls Try.prog 48 (List.toArray [.slice a n c, .int .i64 last]) w fun e w' =>  e = .returned (.int .i64 v) ∧ Below w.heap.size w w' := by
  subst hn e
  exact next_ a bs c last (by omega) w (row_of hs rfl hrow)
theorem roundsE (bs : List Bool) (a : Option Addr) (n c : Nat) (last m : Int) (ys : List Int) (w : World) (hm : Fits m) (hs : Sl a n c) (hn : n = bs.length) (hlen : bs.length ≤ 1000000) (e : rnds bs last m = ys) (hrow : At w (pt a n) (bc bs)) : Calls Try.prog 50 (List.toArray [.slice a n c, .int .i64 last, .int .i64 m]) w fun e w' =>  ∃ v, e = .returned v ∧ Below w.heap.size w w' ∧ w'.ownsRow w.heap.size 3 1 v ys.length (ic ys) := by
  subst hn e
  exact rounds a bs c last m hm (by omega) w (row_of hs rfl hrow)
theorem sameT (l : List Int) (a b : Option Addr) (n c d : Nat) (w : World) (hs : Sl a n c) (ht : Sl b n d) (hn : n = l.length) (hrow : At w (pt a n) (ic l)) (hrow' : At w (pt b n) (ic l)) : Calls Try.prog 36 (List.toArray [.slice a n c, .slice b n d]) w fun e w' =>  e = .returned (.bool true) ∧ Below w.heap.size w w' :=
  lock.same l a b n c d w hs ht hn hrow hrow'
set_option maxHeartbeats 4000000 in
set_option maxRecDepth 100000 in
theorem live (w : World) : Calls Try.prog 43 (List.toArray []) w fun e w' =>  e = .returned (.bool true) ∧ Below w.heap.size w w' := by
  have F0 : ∀ x : Int, x = 3 ∨ x = 4 ∨ x = -1 ∨ x = 0 → Fits x := fun x h => by unfold Fits; omega
  refine calls_of_exec env_ok Try.func43 rfl [] (by kernel_rfl) [] (by simp) ?_
  (conv => arg 5; whnf)
  refine wp_share fun u c_u h_u f_u => ?_
  (conv => arg 5; whnf)
  refine meetc (f := 44) (v := .int .i64 2) rfl (by kernel_rfl) (fun β ρ w' hM' => countE [false, true, false, true] u 4 c_u 2 w' h_u rfl (by decide) (by decide) (hM'.at_ (.head _))) ?_
  (conv => arg 5; whnf)
  refine meetc (f := 46) (v := .int .i64 (3)) rfl (by kernel_rfl) (fun β ρ w' hM' => pickE [false, true, false, true] u 4 c_u (3) (3) w' (F0 _ (by simp)) h_u rfl (by decide) (by decide) (hM'.at_ (.head _))) ?_
  (conv => arg 5; whnf)
  refine meetc (f := 46) (v := .int .i64 (1)) rfl (by kernel_rfl) (fun β ρ w' hM' => pickE [false, true, false, true] u 4 c_u (4) (1) w' (F0 _ (by simp)) h_u rfl (by decide) (by decide) (hM'.at_ (.head _))) ?_
  (conv => arg 5; whnf)
  refine meetc (f := 46) (v := .int .i64 (-1)) rfl (by kernel_rfl) (fun β ρ w' hM' => pickE [false, true, false, true] u 4 c_u (-1) (-1) w' (F0 _ (by simp)) h_u rfl (by decide) (by decide) (hM'.at_ (.head _))) ?_
  (conv => arg 5; whnf)
  refine meetc (f := 46) (v := .int .i64 (-1)) rfl (by kernel_rfl) (fun β ρ w' hM' => pick none [] 0 0 (F0 _ (by simp)) (by decide) w' (.inl rfl)) ?_
  (conv => arg 5; whnf)
  refine meetc (f := 48) (v := .int .i64 (3)) rfl (by kernel_rfl) (fun β ρ w' hM' => nextE [false, true, false, true] u 4 c_u (1) (3) w' h_u rfl (by decide) (by decide) (hM'.at_ (.head _))) ?_
  (conv => arg 5; whnf)
  refine meetc (f := 48) (v := .int .i64 (1)) rfl (by kernel_rfl) (fun β ρ w' hM' => nextE [false, true, false, true] u 4 c_u (3) (1) w' h_u rfl (by decide) (by decide) (hM'.at_ (.head _))) ?_
  (conv => arg 5; whnf)
  refine meetc (f := 48) (v := .int .i64 (1)) rfl (by kernel_rfl) (fun β ρ w' hM' => nextE [false, true, false, true] u 4 c_u (9) (1) w' h_u rfl (by decide) (by decide) (hM'.at_ (.head _))) ?_
  (conv => arg 5; whnf)
  refine wp_share fun q c_q h_q f_q => ?_
  (conv => arg 5; whnf)
  refine meetc (f := 48) (v := .int .i64 (-1)) rfl (by kernel_rfl) (fun β ρ w' hM' => nextE [false] q 1 c_q 0 (-1) w' h_q rfl (by decide) (by decide) (hM'.at_ (.head _))) ?_
  (conv => arg 5; whnf)
  refine meetM 3 (ic [1, 3, 1]) rfl (by kernel_rfl) (fun β ρ w' hM' => roundsE [false, true, false, true] u 4 c_u (-1) 3 [1, 3, 1] w' (F0 _ (by simp)) h_u rfl (by decide) (by decide) (hM'.at_ (.tail _ (.head _)))) ?_
  (conv => arg 5; whnf)
  refine wp_share fun x c_x h_x f_x => ?_
  (conv => arg 5; whnf)
  refine wp_share fun y c_y h_y f_y => ?_
  (conv => arg 5; whnf)
  refine meetc (f := 36) (v := .bool true) rfl (by kernel_rfl) (fun β ρ w' hM' => sameT [1, 3, 1] x y 3 c_x c_y w' h_x h_y rfl (hM'.at_ (.tail _ (.head _))) (hM'.at_ (.head _))) ?_
  (conv => arg 5; whnf)
  exact wp_back fun β ρ w' hM' => ⟨rfl, hM'.below⟩
end Go.Proofs.Ytjeghmlingfnjaa.turn
