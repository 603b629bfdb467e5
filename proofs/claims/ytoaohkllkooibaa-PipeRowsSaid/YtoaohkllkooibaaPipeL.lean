/- Layer 8 (pipe): contracts for laws; hopperlaw08's own answers. -/
import Derived.Test.YtoaohkllkooibaaPipeI
namespace Go.Proofs.Ytoaohkllkooibaa.pipe
open Go.RowKit Sx
set_option linter.unusedVariables false
set_option linter.unusedSimpArgs false
theorem sendT (room : Int) (sh : Bool) (a : Option Addr) (n c : Nat) (l : List It) (w : World) (hs : Sl a n c) (hn : n = l.length) (hro : Fits room) (x : It) (hl : l.length ≤ 99999) (n' : Nat) (ys : List It) (er : Int) (e0 : ys.length = n') (e1 : sendV room sh l x = ys) (e2 : sendR room sh l = er) (hrow : At w (pt a n) (cellsE l)) : Calls Try.prog 10 (List.toArray [pv room sh a n c, x.val]) w fun e w' => ∃ i : One, Sl i.1 n' i.2 ∧ Gives w w' e (.tuple #[pv room sh i.1 n' i.2, .int .i64 er]) [rowF (pt i.1 n') (cellsE ys)] := by
  subst e0 e1 e2
  exact send room sh a n c l x w hs hn hrow hl hro
theorem rsendT (room : Int) (sh : Bool) (a : Option Addr) (n c : Nat) (l : List It) (w : World) (hs : Sl a n c) (hn : n = l.length) (hro : Fits room) (x : It) (hl : l.length ≤ 99999) (n' : Nat) (ys : List It) (er : Int) (e0 : ys.length = n') (e1 : sendV room sh l x = ys) (e2 : sendR room sh l = er) (hrow : At w (pt a n) (cellsE l)) : Calls Try.prog 11 (List.toArray [pv room sh a n c, x.val]) w fun e w' => ∃ i : One, Sl i.1 n' i.2 ∧ Lays w w' (rowF (pt a n) (cellsE l)).g e (.tuple #[pv room sh i.1 n' i.2, .int .i64 er]) (rowF (pt i.1 n') (cellsE ys)) := by
  subst e0 e1 e2
  exact rsend room sh a n c l x w hs hn hrow (by omega)
theorem takeT (room : Int) (sh : Bool) (a : Option Addr) (n c : Nat) (l : List It) (w : World) (hs : Sl a n c) (hn : n = l.length) (hro : Fits room) (hl : l.length ≤ 100000) (n' : Nat) (ys : List It) (x : It) (er : Int) (e0 : ys.length = n') (e1 : l.tail = ys) (e2 : recvX l = x) (e3 : recvE l sh = er) (hrow : At w (pt a n) (cellsE l)) : Calls Try.prog 12 (List.toArray [pv room sh a n c]) w fun e w' => ∃ i : One, Sl i.1 n' i.2 ∧ Gives w w' e (.tuple #[pv room sh i.1 n' i.2, x.val, .int .i64 er]) [rowF (pt i.1 n') (cellsE ys)] := by
  subst e0 e1 e2 e3
  exact take room sh a n c l w hs hn hrow hl hro
theorem rtakeT (room : Int) (sh : Bool) (a : Option Addr) (n c : Nat) (l : List It) (w : World) (hs : Sl a n c) (hn : n = l.length) (hro : Fits room) (hl : l.length ≤ 100000) (n' : Nat) (ys : List It) (x : It) (er : Int) (e0 : ys.length = n') (e1 : l.tail = ys) (e2 : recvX l = x) (e3 : recvE l sh = er) (hrow : At w (pt a n) (cellsE l)) : Calls Try.prog 13 (List.toArray [pv room sh a n c]) w fun e w' => ∃ i : One, Sl i.1 n' i.2 ∧ Lays w w' (rowF (pt a n) (cellsE l)).g e (.tuple #[pv room sh i.1 n' i.2, x.val, .int .i64 er]) (rowF (pt i.1 n') (cellsE ys)) := by
  subst e0 e1 e2 e3
  exact rtake room sh a n c l w hs hn hrow hl
theorem closeT (room : Int) (sh : Bool) (a : Option Addr) (n c : Nat) (l : List It) (w : World) (hs : Sl a n c) (hn : n = l.length) (hro : Fits room) (hl : l.length ≤ 100000) (er : Int) (e1 : (if sh = true then 8 else 0) = er) (hrow : At w (pt a n) (cellsE l)) : Calls Try.prog 14 (List.toArray [pv room sh a n c]) w fun e w' => ∃ i : One, Sl i.1 n i.2 ∧ Gives w w' e (.tuple #[pv room true i.1 n i.2, .int .i64 er]) [rowF (pt i.1 n) (cellsE l)] := by
  subst e1 hn
  exact close_ room sh a l.length c l w hs rfl hrow hl hro
theorem newT (x r e0 : Int) (w : World) (h : newV x = (r, e0)) : Calls Try.prog 16 (List.toArray [.int .i64 x]) w fun e w' =>  e = .returned (.tuple #[pv r false none 0 0, .int .i64 e0]) ∧ Below w.heap.size w w' := by
  have := new_ x w
  rwa [h] at this
theorem rnewT (x r e0 : Int) (w : World) (h : newV x = (r, e0)) : Calls Try.prog 17 (List.toArray [.int .i64 x]) w fun e w' =>  e = .returned (.tuple #[pv r false none 0 0, .int .i64 e0]) ∧ Below w.heap.size w w' := by
  have := rnew x w
  rwa [h] at this
def A : It := ⟨3, 1, ⟨#[97]⟩⟩
set_option maxHeartbeats 4000000 in
set_option maxRecDepth 100000 in
theorem live (w : World) : Calls Try.prog 8 (List.toArray []) w fun e w' =>  e = .returned (.bool true) ∧ Below w.heap.size w w' := by
  have hf1 : Fits 1 := by unfold Fits; decide
  refine calls_of_exec env_ok Try.func8 rfl [] (schedQ_ok _ _ (by kernel_rfl)) [] (by simp) ?_
  (conv => arg 5; whnf)
  refine meetc (f := 16) (v := .tuple #[pv 1 false none 0 0, .int .i64 0]) rfl (by kernel_rfl) (fun β ρ w' hM' => newT 1 1 0 w' (by decide)) ?_
  (conv => arg 5; whnf)
  refine meet1F (f := 10) (n := 1) (v := fun a1 c1 => .tuple #[pv 1 false a1 1 c1, .int .i64 0]) (xs := cellsE [A]) rfl (by kernel_rfl) (fun β ρ w' hM' => sendT 1 false none 0 0 [] w' sl_nil rfl hf1 A (by decide) 1 [A] 0 rfl rfl (by kernel_rfl) at_nil) (fun q c_q h_q f_q => ?_)
  (conv => arg 5; whnf)
  refine meet1F (f := 10) (n := 1) (v := fun a1 c1 => .tuple #[pv 1 false a1 1 c1, .int .i64 6]) (xs := cellsE [A]) rfl (by kernel_rfl) (fun β ρ w' hM' => sendT 1 false q 1 c_q [A] w' h_q rfl hf1 it0 (by decide) 1 [A] 6 rfl rfl (by kernel_rfl) (hM'.at_ (.head _))) (fun q2 c_q2 h_q2 f_q2 => ?_)
  (conv => arg 5; whnf)
  refine meet1F (f := 12) (n := 0) (v := fun a1 c1 => .tuple #[pv 1 false a1 0 c1, A.val, .int .i64 0]) (xs := cellsE []) rfl (by kernel_rfl) (fun β ρ w' hM' => takeT 1 false q 1 c_q [A] w' h_q rfl hf1 (by decide) 0 [] A 0 rfl rfl rfl rfl (hM'.at_ (.tail _ (.head _)))) (fun r c_r h_r f_r => ?_)
  (conv => arg 5; whnf)
  refine meet1F (f := 12) (n := 0) (v := fun a1 c1 => .tuple #[pv 1 false a1 0 c1, it0.val, .int .i64 7]) (xs := cellsE []) rfl (by kernel_rfl) (fun β ρ w' hM' => takeT 1 false r 0 c_r [] w' h_r rfl hf1 (by decide) 0 [] it0 7 rfl rfl rfl rfl (hM'.at_ (.head _))) (fun r2 c_r2 h_r2 f_r2 => ?_)
  (conv => arg 5; whnf)
  refine meet1F (f := 14) (n := 1) (v := fun a1 c1 => .tuple #[pv 1 true a1 1 c1, .int .i64 0]) (xs := cellsE [A]) rfl (by kernel_rfl) (fun β ρ w' hM' => closeT 1 false q 1 c_q [A] w' h_q rfl hf1 (by decide) 0 rfl (hM'.at_ (.tail _ (.tail _ (.tail _ (.head _)))))) (fun s c_s h_s f_s => ?_)
  (conv => arg 5; whnf)
  refine meet1F (f := 10) (n := 1) (v := fun a1 c1 => .tuple #[pv 1 true a1 1 c1, .int .i64 8]) (xs := cellsE [A]) rfl (by kernel_rfl) (fun β ρ w' hM' => sendT 1 true s 1 c_s [A] w' h_s rfl hf1 it0 (by decide) 1 [A] 8 rfl rfl (by kernel_rfl) (hM'.at_ (.head _))) (fun s2 c_s2 h_s2 f_s2 => ?_)
  (conv => arg 5; whnf)
  refine meet1F (f := 12) (n := 0) (v := fun a1 c1 => .tuple #[pv 1 true a1 0 c1, A.val, .int .i64 0]) (xs := cellsE []) rfl (by kernel_rfl) (fun β ρ w' hM' => takeT 1 true s 1 c_s [A] w' h_s rfl hf1 (by decide) 0 [] A 0 rfl rfl rfl rfl (hM'.at_ (.tail _ (.head _)))) (fun t c_t h_t f_t => ?_)
  (conv => arg 5; whnf)
  refine meet1F (f := 12) (n := 0) (v := fun a1 c1 => .tuple #[pv 1 true a1 0 c1, it0.val, .int .i64 8]) (xs := cellsE []) rfl (by kernel_rfl) (fun β ρ w' hM' => takeT 1 true t 0 c_t [] w' h_t rfl hf1 (by decide) 0 [] it0 8 rfl rfl rfl rfl (hM'.at_ (.head _))) (fun t2 c_t2 h_t2 f_t2 => ?_)
  (conv => arg 5; whnf)
  refine meet1F (f := 14) (n := 1) (v := fun a1 c1 => .tuple #[pv 1 true a1 1 c1, .int .i64 8]) (xs := cellsE [A]) rfl (by kernel_rfl) (fun β ρ w' hM' => closeT 1 true s 1 c_s [A] w' h_s rfl hf1 (by decide) 8 rfl (hM'.at_ (.tail _ (.tail _ (.tail _ (.head _)))))) (fun u c_u h_u f_u => ?_)
  (conv => arg 5; whnf)
  refine meetc (f := 16) (v := .tuple #[pv 0 false none 0 0, .int .i64 1]) rfl (by kernel_rfl) (fun β ρ w' hM' => newT 9 0 1 w' (by decide)) ?_
  (conv => arg 5; whnf)
  refine wp_prim (.bool true) (fun w => eq_sameP _ _ A w) ?_
  (conv => arg 5; whnf)
  exact wp_back fun β ρ w' hM' => ⟨rfl, hM'.below⟩
end Go.Proofs.Ytoaohkllkooibaa.pipe
