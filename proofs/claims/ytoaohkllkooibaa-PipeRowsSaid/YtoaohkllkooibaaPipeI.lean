/- Layer 8 (pipe): the document, by contract; a row, handed over. -/
import Derived.Test.YtoaohkllkooibaaPipeH
namespace Go.Proofs.Ytoaohkllkooibaa.pipe
open Go.RowKit Sx
set_option linter.unusedVariables false
set_option linter.unusedSimpArgs false
theorem neq_sameR (x y : Operand) (t : It) (w : World) : (do eqGuard .neq 26 x y t.val t.val; pure (Next.value (← binOp .neq 26 t.val t.val)) : Sem Next).run Try.prog w = .ok (.value (.bool false)) w := by
  simp [It.val, eqGuard, go_sem]
theorem eq_sameR (x y : Operand) (t : It) (w : World) : (do eqGuard .eql 26 x y t.val t.val; pure (Next.value (← binOp .eql 26 t.val t.val)) : Sem Next).run Try.prog w = .ok (.value (.bool true)) w := by
  simp [It.val, eqGuard, go_sem]
theorem eq_sameP (x y : Operand) (t : It) (w : World) : (do eqGuard .eql 36 x y t.val t.val; pure (Next.value (← binOp .eql 36 t.val t.val)) : Sem Next).run Try.prog w = .ok (.value (.bool true)) w := by
  simp [It.val, eqGuard, go_sem]
theorem slice_fromR (a : Option Addr) (n c j : Nat) (w : World) (h : j ≤ n) (hc : n ≤ c) : (do pure (Next.value (← Instr.sliceAt 22 (.slice a n c) (some (.int .i64 j)) none none)) : Sem Next).run Try.prog w = .ok (.value (.slice (shift a c j) (n - j) (c - j))) w := by
  have h2 : (j : Int) ≤ n := by omega
  have h3 : (n : Int) ≤ c := by omega
  unfold shift
  by_cases h4 : c = j
  · have h5 : (c : Int) = j := by omega
    simp [Instr.sliceAt, Instr.slice, run_underlying Try.underlying22, Sem.run_bind, go_sem, h2, h3, h4, h5]
  · simp [Instr.sliceAt, Instr.slice, run_underlying Try.underlying22, Sem.run_bind, go_sem, h2, h3, h4]
theorem pt_len {a : Option Addr} {n m : Nat} (h : n = m) : pt a n = pt a m := by rw [h]
set_option maxHeartbeats 4000000 in
set_option maxRecDepth 100000 in
theorem rsend (room : Int) (sh : Bool) (a : Option Addr) (n c : Nat) (l : List It) (x : It) (w : World) (hs : Sl a n c) (hn : n = l.length) (hrow : At w (pt a n) (cellsE l)) (hl : l.length ≤ 100000) : Calls Try.prog 11 (List.toArray [pv room sh a n c, x.val]) w fun e w' =>  ∃ i : One, Sl i.1 (sendV room sh l x).length i.2 ∧ Lays w w' (rowF (pt a n) (cellsE l)).g e (.tuple #[pv room sh i.1 (sendV room sh l x).length i.2, .int .i64 (sendR room sh l)]) (rowF (pt i.1 (sendV room sh l x).length) (cellsE (sendV room sh l x))) := by
  cases sh with
  | true =>
    have e1 : sendV room true l x = l := rfl
    have e2 : sendR room true l = 8 := rfl
    rw [e1, e2]
    refine calls_of_exec env_ok Try.func11 rfl [] (schedQ_ok _ _ (by kernel_rfl)) [rowF (pt a n) (cellsE l)] (at1 hrow) ?_
    (conv => arg 5; whnf)
    exact wp_back fun β ρ w' hM' => ⟨(a, c), (by rw [← hn]; exact hs), (by rw [← hn]; exact lays_old rfl hM'.below (hM'.at_ (.head _)))⟩
  | false =>
    by_cases hc : (n : Int) < room
    · have e1 : sendV room false l x = l ++ [x] := by unfold sendV; rw [if_neg (by decide), ← hn, if_pos hc]
      have e2 : sendR room false l = 0 := by unfold sendR; rw [if_neg (by decide), ← hn, if_pos hc]
      have e3 : cellsE (l ++ [x]) = [] ++ cellsE l ++ x.cells := by rw [cellsE_append, List.nil_append]; simp [cellsE]
      have e4 : (l ++ [x]).length = 0 + n + 1 := by simp; omega
      rw [e1, e2, e3, e4]
      refine calls_of_exec env_ok Try.func11 rfl [] (schedQ_ok _ _ (by kernel_rfl)) [rowF (pt a n) (cellsE l)] (at1 hrow) ?_
      (conv => arg 5; whnf)
      refine wp_br (fun h => by simp at h; omega) (fun _ => ?_)
      (conv => arg 5; whnf)
      refine rowsE hn (.head _) ?_
      (conv => arg 5; whnf)
      refine wp_must ⟨by show 0 + n ≤ maxLen; unfold maxLen; omega, by show (0 + n) * 32 ≤ _; omega, fun h => ⟨(hs.2.2 h).1, (hs.2.2 h).2⟩⟩ ?_
      (conv => arg 5; whnf)
      refine wp_must ⟨by show 0 + n + 1 ≤ maxLen; unfold maxLen; omega, by show (0 + n + 1) * 32 ≤ _; omega⟩ ?_
      (conv => arg 5; whnf)
      refine wp_share fun a1 c1 hs1 hf1 => ?_
      (conv => arg 5; whnf)
      exact wp_back fun β ρ w' hM' => ⟨(a1, c1), hs1, Gives.lays ⟨rfl, hM'.below, give1 _ hM' (.head _) hf1⟩⟩
    · have e1 : sendV room false l x = l := by unfold sendV; rw [if_neg (by decide), ← hn, if_neg hc]
      have e2 : sendR room false l = 6 := by unfold sendR; rw [if_neg (by decide), ← hn, if_neg hc]
      rw [e1, e2]
      refine calls_of_exec env_ok Try.func11 rfl [] (schedQ_ok _ _ (by kernel_rfl)) [rowF (pt a n) (cellsE l)] (at1 hrow) ?_
      (conv => arg 5; whnf)
      refine wp_br (fun _ => ?_) (fun h => by simp at h; omega)
      (conv => arg 5; whnf)
      exact wp_back fun β ρ w' hM' => ⟨(a, c), (by rw [← hn]; exact hs), (by rw [← hn]; exact lays_old rfl hM'.below (hM'.at_ (.head _)))⟩
set_option maxHeartbeats 4000000 in
set_option maxRecDepth 100000 in
theorem rtake (room : Int) (sh : Bool) (a : Option Addr) (n c : Nat) (l : List It) (w : World) (hs : Sl a n c) (hn : n = l.length) (hrow : At w (pt a n) (cellsE l)) (hl : l.length ≤ 100000) : Calls Try.prog 13 (List.toArray [pv room sh a n c]) w fun e w' =>  ∃ i : One, Sl i.1 (l.tail).length i.2 ∧ Lays w w' (rowF (pt a n) (cellsE l)).g e (.tuple #[pv room sh i.1 (l.tail).length i.2, (recvX l).val, .int .i64 (recvE l sh)]) (rowF (pt i.1 (l.tail).length) (cellsE (l.tail))) := by
  cases l with
  | nil =>
    obtain rfl : n = 0 := hn
    cases sh with
    | true =>
      refine calls_of_exec env_ok Try.func13 rfl [(7, (line [0, 1, 2, 3, 4], [1, 2]))] (schedQ_ok _ _ (by kernel_rfl)) [rowF (pt a 0) (cellsE [])] (at1 hrow) ?_
      (conv => arg 5; whnf)
      exact wp_back fun β ρ w' hM' => ⟨(a, c), hs, lays_old rfl hM'.below (hM'.at_ (.head _))⟩
    | false =>
      refine calls_of_exec env_ok Try.func13 rfl [(7, (line [0, 1, 2, 3, 4], [1, 2]))] (schedQ_ok _ _ (by kernel_rfl)) [rowF (pt a 0) (cellsE [])] (at1 hrow) ?_
      (conv => arg 5; whnf)
      exact wp_back fun β ρ w' hM' => ⟨(a, c), hs, lays_old rfl hM'.below (hM'.at_ (.head _))⟩
  | cons x l =>
    have h1 : 1 ≤ n := by rw [hn]; simp
    have hc0 := hs.1
    have e4 : l.length = 0 + (n - 1) := by simp at hn; omega
    have e3 : cellsE l = [] ++ cellsE l := rfl
    show Calls _ _ _ w fun e w' => ∃ i : One, Sl i.1 l.length i.2 ∧ Lays w w' (rowF (pt a n) (cellsE (x :: l))).g e (.tuple #[pv room sh i.1 l.length i.2, x.val, .int .i64 0]) (rowF (pt i.1 l.length) (cellsE l))
    rw [e4]
    refine calls_of_exec env_ok Try.func13 rfl [(7, (line [0, 1, 2, 3, 4], [1, 2]))] (schedQ_ok _ _ (by kernel_rfl)) [rowF (pt a n) (cellsE (x :: l))] (at1 hrow) ?_
    (conv => arg 5; whnf)
    refine wp_br (fun h => by simp at h; omega) (fun _ => ?_)
    (conv => arg 5; whnf)
    refine wp_must ⟨by omega, by omega, hs.some h1⟩ ?_
    (conv => arg 5; whnf)
    refine readE (l := x :: l) (k := 0) (x := x) rfl (.head _) h1 (hs.some h1) rfl rfl ?_
    (conv => arg 5; whnf)
    refine wp_prim (.slice (shift a c 1) (n - 1) (c - 1)) (fun w => slice_fromR a n c 1 w h1 hc0) ?_
    (conv => arg 5; whnf)
    refine ⟨cellsE l, by rw [cellsE_length]; omega, cellsE_one l, fun β ρ w' hM' ad had q u hu => (by have h2 := at_end (hM'.at_ (.head _)) 1 h1 hc0; rw [pt_pos (k := 0) (by have := cellsE_pos hu; omega), had] at h2; exact h2.cell hu), ?_⟩
    (conv => arg 5; whnf)
    refine wp_must ⟨by show 0 + (n - 1) ≤ maxLen; unfold maxLen; simp at hl hn; omega, by show (0 + (n - 1)) * 32 ≤ _; simp at hl hn; omega, fun h => (by have h3 := (sl_end hs 1 h1).2.2 h; exact h3)⟩ ?_
    (conv => arg 5; whnf)
    refine wp_share fun a1 c1 hs1 hf1 => ?_
    (conv => arg 5; whnf)
    exact wp_back fun β ρ w' hM' => ⟨(a1, c1), hs1, Gives.lays ⟨rfl, hM'.below, give1 _ hM' (.head _) hf1⟩⟩
set_option maxHeartbeats 4000000 in
set_option maxRecDepth 100000 in
theorem rclose (room : Int) (sh : Bool) (a : Option Addr) (n c : Nat) (w : World) : Calls Try.prog 15 (List.toArray [pv room sh a n c]) w fun e w' =>  e = .returned (.tuple #[pv room true a n c, .int .i64 (if sh = true then 8 else 0)]) ∧ Below w.heap.size w w' := by
  cases sh with
  | true =>
    refine calls_of_exec env_ok Try.func15 rfl [] (schedQ_ok _ _ (by kernel_rfl)) [] (by simp) ?_
    (conv => arg 5; whnf)
    exact wp_back fun β ρ w' hM' => ⟨rfl, hM'.below⟩
  | false =>
    refine calls_of_exec env_ok Try.func15 rfl [] (schedQ_ok _ _ (by kernel_rfl)) [] (by simp) ?_
    (conv => arg 5; whnf)
    exact wp_back fun β ρ w' hM' => ⟨rfl, hM'.below⟩
set_option maxHeartbeats 4000000 in
set_option maxRecDepth 100000 in
theorem small (room : Int) (sh : Bool) (a : Option Addr) (n c : Nat) (w : World) : Calls Try.prog 7 (List.toArray [pv room sh a n c]) w fun e w' =>  e = .returned (.bool (decide ((n : Int) ≤ 40))) ∧ Below w.heap.size w w' := by
  refine calls_of_exec env_ok Try.func7 rfl [] (schedQ_ok _ _ (by kernel_rfl)) [] (by simp) ?_
  (conv => arg 5; whnf)
  exact wp_back fun β ρ w' hM' => ⟨rfl, hM'.below⟩
set_option maxHeartbeats 4000000 in
set_option maxRecDepth 100000 in
theorem same (room : Int) (sh : Bool) (a : Option Addr) (n c : Nat) (l : List It) (b : Option Addr) (d : Nat) (w : World) (hs : Sl a n c) (hn : n = l.length) (hrow : At w (pt a n) (cellsE l)) (hs2 : Sl b n d) (hrow2 : At w (pt b n) (cellsE l)) : Calls Try.prog 18 (List.toArray [pv room sh a n c, pv room sh b n d]) w fun e w' =>  e = .returned (.bool true) ∧ Below w.heap.size w w' := by
  have hn63 := hs.le
  refine calls_of_exec env_ok Try.func18 rfl [(6, (line [0, 1, 2, 3, 4, 5, 6, 7, 8, 9, 10], []))] (schedQ_ok _ _ (by kernel_rfl)) [rowF (pt a n) (cellsE l), rowF (pt b n) (cellsE l)] (at2 hrow hrow2) ?_
  (conv => arg 5; whnf)
  refine wp_g0 (fun _ => ?_) (fun h => absurd h (by simp))
  (conv => arg 5; whnf)
  refine wp_prim (.bool false) (fun w => by cases sh <;> rfl) ?_
  (conv => arg 5; whnf)
  refine wp_br (fun h => absurd h (by simp)) (fun _ => ?_)
  (conv => arg 5; whnf)
  refine loop_rule env_ok [(6, (line [0, 1, 2, 3, 4, 5, 6, 7, 8, 9, 10], []))] (schedQ_ok _ _ (by kernel_rfl)) (fun k : Nat => k ≤ n) (fun k => (⟨[some ([.v (.int .i64 room), .v (.bool sh), .v (.slice a n c)], 24), some ([.v (.int .i64 room), .v (.bool sh), .v (.slice b n d)], 24)], [], [rowF (pt a n) (cellsE l), rowF (pt b n) (cellsE l)]⟩, sl 45 [(2, .p 0 0), (3, .p 1 0), (4, .v (.bool false)), (5, .v (.int .i64 (k : Nat)))])) (fun k => n - k) 0 (Nat.zero_le _) ⟨by repeat' first | exact trivial | refine ⟨.inl rfl, ?_⟩ | refine ⟨.inr rfl, ?_⟩, ⟨by repeat' first | exact trivial | refine ⟨.inl rfl, ?_⟩ | refine ⟨.inr rfl, ?_⟩, by repeat' first | exact trivial | refine ⟨.inl rfl, ?_⟩ | refine ⟨.inr rfl, ?_⟩, fun _ h => h⟩, rfl⟩ ?_
  intro k hk
  (conv => arg 5; whnf)
  refine wp_br (fun h1 => ?_) (fun h1 => ?_)
  · have hlt : k < n := by simp at h1; omega
    have hx := nx_get (l := l) (k := k) (by omega)
    generalize nx l k = x at *
    (conv => arg 5; whnf)
    refine wp_must ⟨by omega, by omega, hs.some hlt⟩ ?_
    (conv => arg 5; whnf)
    refine readE (l := l) (k := k) (x := x) rfl (.head _) hlt (hs.some hlt) hx rfl ?_
    (conv => arg 5; whnf)
    refine wp_must ⟨by omega, by omega, hs2.some hlt⟩ ?_
    (conv => arg 5; whnf)
    refine readE (l := l) (k := k) (x := x) rfl (.tail _ (.head _)) hlt (hs2.some hlt) hx rfl ?_
    (conv => arg 5; whnf)
    refine wp_prim (.bool false) (fun w => neq_sameR _ _ x w) ?_
    (conv => arg 5; whnf)
    refine wp_must ⟨by omega, by omega⟩ ?_
    (conv => arg 5; whnf)
    refine wp_end ⟨k + 1, hlt, ⟨by repeat' first | exact trivial | refine ⟨.inl rfl, ?_⟩ | refine ⟨.inr rfl, ?_⟩, ⟨by repeat' first | exact trivial | refine ⟨.inl rfl, ?_⟩ | refine ⟨.inr rfl, ?_⟩, by repeat' first | exact trivial | refine ⟨.inl rfl, ?_⟩ | refine ⟨.inr rfl, ?_⟩, fun _ h => h⟩, rfl⟩, by show n - (k + 1) < n - k; omega⟩
  · (conv => arg 5; whnf)
    exact wp_back fun β ρ w' hM' => ⟨rfl, hM'.below⟩
set_option maxHeartbeats 4000000 in
set_option maxRecDepth 100000 in
theorem own (room : Int) (sh : Bool) (a : Option Addr) (n c : Nat) (l : List It) (w : World) (hs : Sl a n c) (hn : n = l.length) (hrow : At w (pt a n) (cellsE l)) (hl : l.length ≤ 100000) : Calls Try.prog 9 (List.toArray [pv room sh a n c]) w fun e w' =>  ∃ i : One, Sl i.1 n i.2 ∧ Gives w w' e (pv room sh i.1 n i.2) [rowF (pt i.1 n) (cellsE l)] := by
  have hn63 := hs.le
  refine calls_of_exec env_ok.keeps Try.func9 rfl [(5, (lineT [0, 1, 2, 3, 4, 5, 6, 7] [8, 9, 10], []))] (schedQ_ok _ _ (by kernel_rfl)) [rowF (pt a n) (cellsE l)] (at1 hrow) ?_
  (conv => arg 5; whnf)
  refine loop_nilC 2 2 36 3 [.v (.int .i64 room), .v (.bool sh), .v (.slice none 0 0)] 31 rfl rfl ?_
  (conv => arg 5; whnf)
  refine loop_rule env_ok.keeps [(5, (lineT [0, 1, 2, 3, 4, 5, 6, 7] [8, 9, 10], []))] (schedQ_ok _ _ (by kernel_rfl)) (fun k : Nat => k ≤ n) (fun k => (⟨[some ([.v (.int .i64 room), .v (.bool sh), .v (.slice a n c)], 24), some ([.v (.int .i64 0), .v (.bool false), .v (.slice none 0 0)], 31), some ([.v (.int .i64 room), .v (.bool sh), .r 0], 31)], [some ⟨36, 3, k, cellsE (l.take k)⟩], [rowF (pt a n) (cellsE l)]⟩, sl 28 [(1, .p 0 0), (2, .p 1 0), (3, .p 2 0), (4, .v (.int .i64 (k : Nat)))])) (fun k => n - k) 0 (Nat.zero_le _) ⟨by repeat' first | exact trivial | refine ⟨.inl rfl, ?_⟩ | refine ⟨.inr rfl, ?_⟩, ⟨by repeat' first | exact trivial | refine ⟨.inl rfl, ?_⟩ | refine ⟨.inr rfl, ?_⟩, by repeat' first | exact trivial | refine ⟨.inl rfl, ?_⟩ | refine ⟨.inr rfl, ?_⟩, fun _ h => h⟩, rfl⟩ ?_
  intro k hk
  (conv => arg 5; whnf)
  refine wp_br (fun h1 => ?_) (fun h1 => ?_)
  · have hlt : k < n := by simp at h1; omega
    have hx := nx_get (l := l) (k := k) (by omega)
    have htk : l.take (k + 1) = l.take k ++ [nx l k] := by rw [List.take_add_one, hx]; rfl
    generalize nx l k = x at *
    have hc1 : cellsE (l.take (k + 1)) = cellsE (l.take k) ++ x.cells := by rw [htk, cellsE_append]; simp [cellsE]
    (conv => arg 5; whnf)
    refine wp_must ⟨by omega, by omega, hs.some hlt⟩ ?_
    (conv => arg 5; whnf)
    refine readE (l := l) (k := k) (x := x) rfl (.head _) hlt (hs.some hlt) hx rfl ?_
    (conv => arg 5; whnf)
    refine wp_must ⟨by show k + 1 ≤ maxLen; unfold maxLen; omega, by show (k + 1) * 32 ≤ _; omega⟩ ?_
    (conv => arg 5; whnf)
    refine wp_must ⟨by omega, by omega⟩ ?_
    (conv => arg 5; whnf)
    refine wp_end ⟨k + 1, hlt, ⟨by repeat' first | exact trivial | refine ⟨.inl rfl, ?_⟩ | refine ⟨.inr rfl, ?_⟩, ⟨by repeat' first | exact trivial | refine ⟨.inl rfl, ?_⟩ | refine ⟨.inr rfl, ?_⟩, by show LeO (α := Row) _ [some ⟨36, 3, k + 1, cellsE (l.take (k + 1))⟩]; simp only [hc1, It.cells]; repeat' first | exact trivial | refine ⟨.inl rfl, ?_⟩ | refine ⟨.inr rfl, ?_⟩, fun _ h => h⟩, rfl⟩, by show n - (k + 1) < n - k; omega⟩
  · obtain rfl : n = k := by simp at h1; omega
    rw [List.take_of_length_le (by omega)]
    (conv => arg 5; whnf)
    refine wp_share fun a1 c1 hs1 hf1 => ?_
    (conv => arg 5; whnf)
    exact wp_back fun β ρ w' hM' => ⟨(a1, c1), hs1, rfl, hM'.below, give1 _ hM' (.head _) hf1⟩
set_option maxHeartbeats 4000000 in
set_option maxRecDepth 100000 in
theorem told (room : Int) (sh : Bool) (a : Option Addr) (n c : Nat) (l : List It) (w : World) (hs : Sl a n c) (hn : n = l.length) (hrow : At w (pt a n) (cellsE l)) (hl : l.length ≤ 100000) : Calls Try.prog 19 (List.toArray [pv room sh a n c]) w fun e w' =>  ∃ i : One, Sl i.1 n i.2 ∧ Gives w w' e (pv room sh i.1 n i.2) [rowF (pt i.1 n) (cellsE l)] := by
  have hn63 := hs.le
  refine calls_of_exec env_ok.keeps Try.func19 rfl [(5, (lineT [0, 1, 2, 3, 4, 5, 6, 7] [8, 9, 10], []))] (schedQ_ok _ _ (by kernel_rfl)) [rowF (pt a n) (cellsE l)] (at1 hrow) ?_
  (conv => arg 5; whnf)
  refine loop_nilC 2 2 26 3 [.v (.int .i64 room), .v (.bool sh), .v (.slice none 0 0)] 24 rfl rfl ?_
  (conv => arg 5; whnf)
  refine loop_rule env_ok.keeps [(5, (lineT [0, 1, 2, 3, 4, 5, 6, 7] [8, 9, 10], []))] (schedQ_ok _ _ (by kernel_rfl)) (fun k : Nat => k ≤ n) (fun k => (⟨[some ([.v (.int .i64 room), .v (.bool sh), .v (.slice a n c)], 31), some ([.v (.int .i64 0), .v (.bool false), .v (.slice none 0 0)], 24), some ([.v (.int .i64 room), .v (.bool sh), .r 0], 24)], [some ⟨26, 3, k, cellsE (l.take k)⟩], [rowF (pt a n) (cellsE l)]⟩, sl 28 [(1, .p 0 0), (2, .p 1 0), (3, .p 2 0), (4, .v (.int .i64 (k : Nat)))])) (fun k => n - k) 0 (Nat.zero_le _) ⟨by repeat' first | exact trivial | refine ⟨.inl rfl, ?_⟩ | refine ⟨.inr rfl, ?_⟩, ⟨by repeat' first | exact trivial | refine ⟨.inl rfl, ?_⟩ | refine ⟨.inr rfl, ?_⟩, by repeat' first | exact trivial | refine ⟨.inl rfl, ?_⟩ | refine ⟨.inr rfl, ?_⟩, fun _ h => h⟩, rfl⟩ ?_
  intro k hk
  (conv => arg 5; whnf)
  refine wp_br (fun h1 => ?_) (fun h1 => ?_)
  · have hlt : k < n := by simp at h1; omega
    have hx := nx_get (l := l) (k := k) (by omega)
    have htk : l.take (k + 1) = l.take k ++ [nx l k] := by rw [List.take_add_one, hx]; rfl
    generalize nx l k = x at *
    have hc1 : cellsE (l.take (k + 1)) = cellsE (l.take k) ++ x.cells := by rw [htk, cellsE_append]; simp [cellsE]
    (conv => arg 5; whnf)
    refine wp_must ⟨by omega, by omega, hs.some hlt⟩ ?_
    (conv => arg 5; whnf)
    refine readE (l := l) (k := k) (x := x) rfl (.head _) hlt (hs.some hlt) hx rfl ?_
    (conv => arg 5; whnf)
    refine wp_must ⟨by show k + 1 ≤ maxLen; unfold maxLen; omega, by show (k + 1) * 32 ≤ _; omega⟩ ?_
    (conv => arg 5; whnf)
    refine wp_must ⟨by omega, by omega⟩ ?_
    (conv => arg 5; whnf)
    refine wp_end ⟨k + 1, hlt, ⟨by repeat' first | exact trivial | refine ⟨.inl rfl, ?_⟩ | refine ⟨.inr rfl, ?_⟩, ⟨by repeat' first | exact trivial | refine ⟨.inl rfl, ?_⟩ | refine ⟨.inr rfl, ?_⟩, by show LeO (α := Row) _ [some ⟨26, 3, k + 1, cellsE (l.take (k + 1))⟩]; simp only [hc1, It.cells]; repeat' first | exact trivial | refine ⟨.inl rfl, ?_⟩ | refine ⟨.inr rfl, ?_⟩, fun _ h => h⟩, rfl⟩, by show n - (k + 1) < n - k; omega⟩
  · obtain rfl : n = k := by simp at h1; omega
    rw [List.take_of_length_le (by omega)]
    (conv => arg 5; whnf)
    refine wp_share fun a1 c1 hs1 hf1 => ?_
    (conv => arg 5; whnf)
    exact wp_back fun β ρ w' hM' => ⟨(a1, c1), hs1, rfl, hM'.below, give1 _ hM' (.head _) hf1⟩
end Go.Proofs.Ytoaohkllkooibaa.pipe
