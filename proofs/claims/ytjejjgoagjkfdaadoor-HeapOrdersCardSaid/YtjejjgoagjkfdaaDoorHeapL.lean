/- Layer 6 (heap): hopperlaw06's own answers. -/
import Derived.Test.YtjejjgoagjkfdaaDoorHeapK
namespace Go.Proofs.YtjejjgoagjkfdaaDoor.heap
open Go.RowKit Sx txn queue
set_option linter.unusedVariables false
set_option linter.unusedSimpArgs false
def U (t : Int) : Tx := ⟨1, 0, t, 1000, 1, ByteArray.empty⟩
theorem U_le (t : Int) : (U t).d.size ≤ maxLen := Nat.zero_le _
theorem Us_le (l : List Int) : ∀ x ∈ l.map U, x.d.size ≤ maxLen := fun x hx => by
  obtain ⟨t, _, rfl⟩ := List.mem_map.1 hx
  exact U_le t
theorem tx_ (t : Int) (w : World) : Calls Tryd.prog 71 (List.toArray [.int .i64 t]) w fun e w' => e = .returned (U t).val ∧ Below w.heap.size w w' := by
  refine calls_of_exec env_ok Tryd.func71 rfl [] (by kernel_rfl) [] (by simp) ?_
  (conv => arg 5; whnf)
  exact wp_back fun β ρ w' hM' => ⟨rfl, hM'.below⟩
theorem eq_same (x y : Operand) (t : Tx) (w : World) : (do eqGuard .eql 28 x y t.val t.val; pure (Next.value (← binOp .eql 28 t.val t.val)) : Sem Next).run Tryd.prog w = .ok (.value (.bool true)) w := by
  simp [Tx.val, eqGuard, go_sem]
theorem makeG (l : List Tx) (a : Option Addr) (n c : Nat) (w : World) (hM : Most w) (hs : Sl a n c) (hn : n = l.length) (hl : l.length ≤ 100000) (hd : ∀ x ∈ l, x.d.size ≤ maxLen) (hrow : At w (pt a n) (cellsL l)) (ys : List Tx) (e : makeL l = ys) : Calls Tryd.prog 48 (List.toArray [.slice a n c]) w fun e w' => ∃ i : One, Sl i.1 n i.2 ∧ Gives w w' e (.slice i.1 n i.2) [rowF (pt i.1 n) (cellsL ys)] := by
  subst e
  exact (make_ l a n c w hM hs hn hl hd hrow).mono fun e w' ⟨v, he, hb, ho⟩ => by subst he; exact gives_of_own hb ho
theorem orderG (l : List Tx) (a : Option Addr) (n c : Nat) (w : World) (hM : Most w) (hs : Sl a n c) (hn : n = l.length) (hl : l.length ≤ 100000) (hd : ∀ x ∈ l, x.d.size ≤ maxLen) (hrow : At w (pt a n) (cellsL l)) (ys : List Tx) (e : ordL l = ys) : Calls Tryd.prog 50 (List.toArray [.slice a n c]) w fun e w' => ∃ i : One, Sl i.1 n i.2 ∧ Gives w w' e (.slice i.1 n i.2) [rowF (pt i.1 n) (cellsL ys)] := by
  subst e
  exact (order_ l a n c w hM hs hn hl hd hrow).mono fun e w' ⟨v, he, hb, ho⟩ => by subst he; exact gives_of_own hb ho
theorem rorderG (l : List Tx) (a : Option Addr) (n c : Nat) (w : World) (hM : Most w) (hs : Sl a n c) (hn : n = l.length) (hl : l.length ≤ 100000) (hd : ∀ x ∈ l, x.d.size ≤ maxLen) (hrow : At w (pt a n) (cellsL l)) : Calls Tryd.prog 51 (List.toArray [.slice a n c]) w fun e w' => ∃ i : One, Sl i.1 n i.2 ∧ Gives w w' e (.slice i.1 n i.2) [rowF (pt i.1 n) (cellsL (ordL l))] :=
  (rorder_ l a n c w hM hs hn hl hd hrow).mono fun e w' ⟨v, he, hb, ho⟩ => by subst he; exact gives_of_own hb ho
theorem pushG (t : Tx) (hdt : t.d.size ≤ maxLen) (l : List Tx) (a : Option Addr) (n c : Nat) (w : World) (hM : Most w) (hs : Sl a n c) (hn : n = l.length) (hl : l.length ≤ 100000) (hd : ∀ x ∈ l, x.d.size ≤ maxLen) (hrow : At w (pt a n) (cellsL l)) (ys : List Tx) (e : pushL l t = ys) : Calls Tryd.prog 46 (List.toArray [.slice a n c, t.val]) w fun e w' => ∃ i : One, Sl i.1 (l.length + 1) i.2 ∧ Gives w w' e (.slice i.1 (l.length + 1) i.2) [rowF (pt i.1 (l.length + 1)) (cellsL ys)] := by
  subst e
  exact (push_ t hdt l a n c w hM hs hn hl hd hrow).mono fun e w' ⟨v, he, hb, ho⟩ => by subst he; exact gives_of_own hb ho
theorem rpushG (t : Tx) (hdt : t.d.size ≤ maxLen) (l : List Tx) (a : Option Addr) (n c : Nat) (w : World) (hM : Most w) (hs : Sl a n c) (hn : n = l.length) (hl : l.length ≤ 100000) (hd : ∀ x ∈ l, x.d.size ≤ maxLen) (hrow : At w (pt a n) (cellsL l)) : Calls Tryd.prog 47 (List.toArray [.slice a n c, t.val]) w fun e w' => ∃ i : One, Sl i.1 (l.length + 1) i.2 ∧ Gives w w' e (.slice i.1 (l.length + 1) i.2) [rowF (pt i.1 (l.length + 1)) (cellsL (pushL l t))] :=
  (rpush_ t hdt l a n c w hM hs hn hl hd hrow).mono fun e w' ⟨v, he, hb, ho⟩ => by subst he; exact gives_of_own hb ho
theorem popG (l : List Tx) (a : Option Addr) (n c : Nat) (w : World) (hM : Most w) (hs : Sl a n c) (hn : n = l.length) (hl : l.length ≤ 100000) (hd : ∀ x ∈ l, x.d.size ≤ maxLen) (hrow : At w (pt a n) (cellsL l)) (ys : List Tx) (x : Tx) (h1 : 1 ≤ n) (e : popL l = ys) (ex : nx l 0 = x) : Calls Tryd.prog 40 (List.toArray [.slice a n c]) w fun e w' => ∃ i : One, Sl i.1 (n - 1) i.2 ∧ Gives w w' e (.tuple #[.slice i.1 (n - 1) i.2, x.val, .bool true]) [rowF (pt i.1 (n - 1)) (cellsL ys)] := by
  subst e ex
  exact pop_ l a n c w hM hs hn hl hd hrow h1
theorem worstG (l : List Tx) (a : Option Addr) (n c : Nat) (w : World) (hM : Most w) (hs : Sl a n c) (hn : n = l.length) (hl : l.length ≤ 100000) (hd : ∀ x ∈ l, x.d.size ≤ maxLen) (hrow : At w (pt a n) (cellsL l)) (k : Nat) (b : Bool) (e : worstTo l n = k) (eb : decide (0 < n) = b) : Calls Tryd.prog 42 (List.toArray [.slice a n c]) w fun e w' => e = .returned (.tuple #[.int .i64 k, .bool b]) ∧ Below w.heap.size w w' := by
  subst e eb
  exact worst_ l a n c w hM hs hn hl hd hrow
theorem checkG (l : List Tx) (a : Option Addr) (n c : Nat) (w : World) (hM : Most w) (hs : Sl a n c) (hn : n = l.length) (hl : l.length ≤ 100000) (hd : ∀ x ∈ l, x.d.size ≤ maxLen) (hrow : At w (pt a n) (cellsL l)) (b : Bool) (e : heapV l = b) : Calls Tryd.prog 44 (List.toArray [.slice a n c]) w fun e w' => e = .returned (.bool b) ∧ Below w.heap.size w w' := by
  subst e
  exact check_ l a n c w hM hs hn hl hd hrow
set_option maxHeartbeats 4000000 in
set_option maxRecDepth 100000 in
theorem live (w : World) (hM : Most w) : Calls Tryd.prog 39 (List.toArray []) w fun e w' => e = .returned (.bool true) ∧ Below w.heap.size w w' := by
  refine calls_of_exec env_ok.keeps Tryd.func39 rfl [(9, (line [0, 1, 2, 3, 4, 5, 6, 7, 8, 9, 10, 11, 12, 13, 14, 15, 16, 17, 18, 19, 20, 21, 22, 23, 24, 25, 26, 27, 28, 29, 30, 31, 32, 33, 34, 35, 36, 37, 38, 39, 40, 41, 42, 43, 44, 45, 46, 47, 48, 49, 50, 51, 52, 53, 54, 55, 56, 57, 58, 59, 60, 61, 62, 63, 64, 65, 66, 67, 68, 69, 70, 71, 72, 73, 74, 75, 76, 77, 78, 79, 80, 81, 82, 83, 84], []))] (schedQ_ok _ _ (by kernel_rfl)) [] (by simp) ?_
  (conv => arg 5; whnf)
  refine meetc (f := 71) (v := (U 1).val) rfl (by kernel_rfl) (fun β ρ w' hM' => tx_ 1 w') ?_
  (conv => arg 5; whnf)
  refine meetc (f := 71) (v := (U 5).val) rfl (by kernel_rfl) (fun β ρ w' hM' => tx_ 5 w') ?_
  (conv => arg 5; whnf)
  refine meetc (f := 71) (v := (U 3).val) rfl (by kernel_rfl) (fun β ρ w' hM' => tx_ 3 w') ?_
  (conv => arg 5; whnf)
  refine meetc (f := 71) (v := (U 9).val) rfl (by kernel_rfl) (fun β ρ w' hM' => tx_ 9 w') ?_
  (conv => arg 5; whnf)
  refine wp_share fun u c_u h_u f_u => ?_
  (conv => arg 5; whnf)
  refine meet1F (f := 48) (n := 4) (v := fun a1 c1 => .slice a1 4 c1) (xs := cellsL [U 9, U 5, U 3, U 1]) rfl (by kernel_rfl) (fun β ρ w' hM' => makeG [U 1, U 5, U 3, U 9] u 4 c_u w' (hM.later hM'.below) h_u rfl (by decide) (Us_le [1, 5, 3, 9]) (hM'.at_ (.head _)) [U 9, U 5, U 3, U 1] (by kernel_rfl)) (fun h c_h h_h _ => ?_)
  (conv => arg 5; whnf)
  refine meet1F (f := 40) (n := 3) (v := fun a1 c1 => .tuple #[.slice a1 3 c1, (U 9).val, .bool true]) (xs := cellsL [U 5, U 1, U 3]) rfl (by kernel_rfl) (fun β ρ w' hM' => popG [U 9, U 5, U 3, U 1] h 4 c_h w' (hM.later hM'.below) h_h rfl (by decide) (Us_le [9, 5, 3, 1]) (hM'.at_ (.head _)) [U 5, U 1, U 3] (U 9) (by decide) (by kernel_rfl) (by kernel_rfl)) (fun r c_r h_r _ => ?_)
  (conv => arg 5; whnf)
  refine meetc (f := 40) (v := .tuple #[.slice none 0 0, tx0.val, .bool false]) rfl (by kernel_rfl) (fun β ρ w' hM' => pop_zero none 0 w') ?_
  (conv => arg 5; whnf)
  refine meetc (f := 71) (v := (U 1).val) rfl (by kernel_rfl) (fun β ρ w' hM' => tx_ 1 w') ?_
  (conv => arg 5; whnf)
  refine meetc (f := 71) (v := (U 5).val) rfl (by kernel_rfl) (fun β ρ w' hM' => tx_ 5 w') ?_
  (conv => arg 5; whnf)
  refine meetc (f := 71) (v := (U 3).val) rfl (by kernel_rfl) (fun β ρ w' hM' => tx_ 3 w') ?_
  (conv => arg 5; whnf)
  refine wp_share fun v c_v h_v f_v => ?_
  (conv => arg 5; whnf)
  refine meet1F (f := 50) (n := 3) (v := fun a1 c1 => .slice a1 3 c1) (xs := cellsL [U 5, U 3, U 1]) rfl (by kernel_rfl) (fun β ρ w' hM' => orderG [U 1, U 5, U 3] v 3 c_v w' (hM.later hM'.below) h_v rfl (by decide) (Us_le [1, 5, 3]) (hM'.at_ (.head _)) [U 5, U 3, U 1] (by kernel_rfl)) (fun o c_o h_o _ => ?_)
  (conv => arg 5; whnf)
  refine meetc (f := 71) (v := (U 2).val) rfl (by kernel_rfl) (fun β ρ w' hM' => tx_ 2 w') ?_
  (conv => arg 5; whnf)
  refine meetc (f := 71) (v := (U 1).val) rfl (by kernel_rfl) (fun β ρ w' hM' => tx_ 1 w') ?_
  (conv => arg 5; whnf)
  refine meetc (f := 71) (v := (U 3).val) rfl (by kernel_rfl) (fun β ρ w' hM' => tx_ 3 w') ?_
  (conv => arg 5; whnf)
  refine meetc (f := 71) (v := (U 1).val) rfl (by kernel_rfl) (fun β ρ w' hM' => tx_ 1 w') ?_
  (conv => arg 5; whnf)
  refine wp_share fun x c_x h_x f_x => ?_
  (conv => arg 5; whnf)
  refine meetc (f := 42) (v := .tuple #[.int .i64 1, .bool true]) rfl (by kernel_rfl) (fun β ρ w' hM' => worstG [U 2, U 1, U 3, U 1] x 4 c_x w' (hM.later hM'.below) h_x rfl (by decide) (Us_le [2, 1, 3, 1]) (hM'.at_ (.head _)) 1 true (by kernel_rfl) (by kernel_rfl)) ?_
  (conv => arg 5; whnf)
  refine meetc (f := 71) (v := (U 3).val) rfl (by kernel_rfl) (fun β ρ w' hM' => tx_ 3 w') ?_
  (conv => arg 5; whnf)
  refine meetc (f := 71) (v := (U 4).val) rfl (by kernel_rfl) (fun β ρ w' hM' => tx_ 4 w') ?_
  (conv => arg 5; whnf)
  refine wp_share fun y c_y h_y f_y => ?_
  (conv => arg 5; whnf)
  refine meet1F (f := 46) (n := 2) (v := fun a1 c1 => .slice a1 2 c1) (xs := cellsL [U 4, U 3]) rfl (by kernel_rfl) (fun β ρ w' hM' => pushG (U 4) (U_le 4) [U 3] y 1 c_y w' (hM.later hM'.below) h_y rfl (by decide) (Us_le [3]) (hM'.at_ (.head _)) [U 4, U 3] (by kernel_rfl)) (fun p c_p h_p _ => ?_)
  (conv => arg 5; whnf)
  refine wp_must ⟨by decide, by decide, h_h.some (show 0 < 4 by decide)⟩ ?_
  (conv => arg 5; whnf)
  refine readX (l := [U 9, U 5, U 3, U 1]) (x := U 9) rfl (.tail _ (.tail _ (.tail _ (.tail _ (.tail _ (.tail _ (.head _))))))) (show 0 < 4 by decide) (h_h.some (show 0 < 4 by decide)) rfl rfl ?_
  (conv => arg 5; whnf)
  refine meetc (f := 71) (v := (U 9).val) rfl (by kernel_rfl) (fun β ρ w' hM' => tx_ 9 w') ?_
  (conv => arg 5; whnf)
  refine wp_prim (.bool true) (fun w => eq_same _ _ (U 9) w) ?_
  (conv => arg 5; whnf)
  refine wp_must ⟨by decide, by decide, h_h.some (show 1 < 4 by decide)⟩ ?_
  (conv => arg 5; whnf)
  refine readX (l := [U 9, U 5, U 3, U 1]) (x := U 5) rfl (.tail _ (.tail _ (.tail _ (.tail _ (.tail _ (.tail _ (.head _))))))) (show 1 < 4 by decide) (h_h.some (show 1 < 4 by decide)) rfl rfl ?_
  (conv => arg 5; whnf)
  refine meetc (f := 71) (v := (U 5).val) rfl (by kernel_rfl) (fun β ρ w' hM' => tx_ 5 w') ?_
  (conv => arg 5; whnf)
  refine wp_prim (.bool true) (fun w => eq_same _ _ (U 5) w) ?_
  (conv => arg 5; whnf)
  refine wp_must ⟨by decide, by decide, h_h.some (show 2 < 4 by decide)⟩ ?_
  (conv => arg 5; whnf)
  refine readX (l := [U 9, U 5, U 3, U 1]) (x := U 3) rfl (.tail _ (.tail _ (.tail _ (.tail _ (.tail _ (.tail _ (.head _))))))) (show 2 < 4 by decide) (h_h.some (show 2 < 4 by decide)) rfl rfl ?_
  (conv => arg 5; whnf)
  refine meetc (f := 71) (v := (U 3).val) rfl (by kernel_rfl) (fun β ρ w' hM' => tx_ 3 w') ?_
  (conv => arg 5; whnf)
  refine wp_prim (.bool true) (fun w => eq_same _ _ (U 3) w) ?_
  (conv => arg 5; whnf)
  refine wp_must ⟨by decide, by decide, h_h.some (show 3 < 4 by decide)⟩ ?_
  (conv => arg 5; whnf)
  refine readX (l := [U 9, U 5, U 3, U 1]) (x := U 1) rfl (.tail _ (.tail _ (.tail _ (.tail _ (.tail _ (.tail _ (.head _))))))) (show 3 < 4 by decide) (h_h.some (show 3 < 4 by decide)) rfl rfl ?_
  (conv => arg 5; whnf)
  refine meetc (f := 71) (v := (U 1).val) rfl (by kernel_rfl) (fun β ρ w' hM' => tx_ 1 w') ?_
  (conv => arg 5; whnf)
  refine wp_prim (.bool true) (fun w => eq_same _ _ (U 1) w) ?_
  (conv => arg 5; whnf)
  refine meetc (f := 71) (v := (U 9).val) rfl (by kernel_rfl) (fun β ρ w' hM' => tx_ 9 w') ?_
  (conv => arg 5; whnf)
  refine wp_prim (.bool true) (fun w => eq_same _ _ (U 9) w) ?_
  (conv => arg 5; whnf)
  refine wp_must ⟨by decide, by decide, h_r.some (show 0 < 3 by decide)⟩ ?_
  (conv => arg 5; whnf)
  refine readX (l := [U 5, U 1, U 3]) (x := U 5) rfl (.tail _ (.tail _ (.tail _ (.tail _ (.tail _ (.head _)))))) (show 0 < 3 by decide) (h_r.some (show 0 < 3 by decide)) rfl rfl ?_
  (conv => arg 5; whnf)
  refine meetc (f := 71) (v := (U 5).val) rfl (by kernel_rfl) (fun β ρ w' hM' => tx_ 5 w') ?_
  (conv => arg 5; whnf)
  refine wp_prim (.bool true) (fun w => eq_same _ _ (U 5) w) ?_
  (conv => arg 5; whnf)
  refine wp_must ⟨by decide, by decide, h_o.some (show 0 < 3 by decide)⟩ ?_
  (conv => arg 5; whnf)
  refine readX (l := [U 5, U 3, U 1]) (x := U 5) rfl (.tail _ (.tail _ (.tail _ (.head _)))) (show 0 < 3 by decide) (h_o.some (show 0 < 3 by decide)) rfl rfl ?_
  (conv => arg 5; whnf)
  refine meetc (f := 71) (v := (U 5).val) rfl (by kernel_rfl) (fun β ρ w' hM' => tx_ 5 w') ?_
  (conv => arg 5; whnf)
  refine wp_prim (.bool true) (fun w => eq_same _ _ (U 5) w) ?_
  (conv => arg 5; whnf)
  refine wp_must ⟨by decide, by decide, h_o.some (show 2 < 3 by decide)⟩ ?_
  (conv => arg 5; whnf)
  refine readX (l := [U 5, U 3, U 1]) (x := U 1) rfl (.tail _ (.tail _ (.tail _ (.head _)))) (show 2 < 3 by decide) (h_o.some (show 2 < 3 by decide)) rfl rfl ?_
  (conv => arg 5; whnf)
  refine meetc (f := 71) (v := (U 1).val) rfl (by kernel_rfl) (fun β ρ w' hM' => tx_ 1 w') ?_
  (conv => arg 5; whnf)
  refine wp_prim (.bool true) (fun w => eq_same _ _ (U 1) w) ?_
  (conv => arg 5; whnf)
  refine wp_must ⟨by decide, by decide, h_p.some (show 0 < 2 by decide)⟩ ?_
  (conv => arg 5; whnf)
  refine readX (l := [U 4, U 3]) (x := U 4) rfl (.head _) (show 0 < 2 by decide) (h_p.some (show 0 < 2 by decide)) rfl rfl ?_
  (conv => arg 5; whnf)
  refine meetc (f := 71) (v := (U 4).val) rfl (by kernel_rfl) (fun β ρ w' hM' => tx_ 4 w') ?_
  (conv => arg 5; whnf)
  refine wp_prim (.bool true) (fun w => eq_same _ _ (U 4) w) ?_
  (conv => arg 5; whnf)
  refine meetc (f := 44) (v := .bool true) rfl (by kernel_rfl) (fun β ρ w' hM' => checkG [U 9, U 5, U 3, U 1] h 4 c_h w' (hM.later hM'.below) h_h rfl (by decide) (Us_le [9, 5, 3, 1]) (hM'.at_ (.tail _ (.tail _ (.tail _ (.tail _ (.tail _ (.tail _ (.head _)))))))) true (by kernel_rfl)) ?_
  (conv => arg 5; whnf)
  refine meetc (f := 71) (v := (U 1).val) rfl (by kernel_rfl) (fun β ρ w' hM' => tx_ 1 w') ?_
  (conv => arg 5; whnf)
  refine meetc (f := 71) (v := (U 2).val) rfl (by kernel_rfl) (fun β ρ w' hM' => tx_ 2 w') ?_
  (conv => arg 5; whnf)
  refine wp_share fun z c_z h_z f_z => ?_
  (conv => arg 5; whnf)
  refine meetc (f := 44) (v := .bool false) rfl (by kernel_rfl) (fun β ρ w' hM' => checkG [U 1, U 2] z 2 c_z w' (hM.later hM'.below) h_z rfl (by decide) (Us_le [1, 2]) (hM'.at_ (.head _)) false (by kernel_rfl)) ?_
  (conv => arg 5; whnf)
  exact wp_back fun β ρ w' hM' => ⟨rfl, hM'.below⟩
end Go.Proofs.YtjejjgoagjkfdaaDoor.heap
