/- Layer 8 (pipe), by contract: items; a channel is sent to, and received from. -/
import Derived.Test.YtoaohkllkooibaaChan
import Derived.Test.YtoaohkllkooibaaGive
import Derived.Test.YtoaohkllkooibaaShape
namespace Go.Proofs.Ytoaohkllkooibaa.pipe
open Go.RowKit Sx
set_option linter.unusedVariables false
set_option linter.unusedSimpArgs false
structure It where
  f : Int
  a : Int
  d : ByteArray
def It.cells (x : It) : List Value := [.int .i64 x.f, .int .i64 x.a, .string x.d]
def It.val (x : It) : Value := .agg #[.int .i64 x.f, .int .i64 x.a, .string x.d]
def cellsE (l : List It) : List Value := l.flatMap It.cells
theorem cellsE_length (l : List It) : (cellsE l).length = l.length * 3 := by
  induction l with
  | nil => rfl
  | cons x l ih => simp only [cellsE, List.flatMap_cons, List.length_append] at ih ⊢; rw [ih]; simp [It.cells]; omega
theorem cellsE_at : ∀ {l : List It} {k : Nat} {x : It}, l[k]? = some x → ∀ (j : Nat) (u : Value), x.cells[j]? = some u → (cellsE l)[k * 3 + j]? = some u
  | y :: l, 0, x, h, j, u, hu => by
    simp at h
    subst h
    have hj : j < 3 := by have := (List.getElem?_eq_some_iff.1 hu).1; simpa [It.cells] using this
    simp only [cellsE, List.flatMap_cons]
    rw [List.getElem?_append_left (by simp [It.cells]; omega)]
    simpa using hu
  | y :: l, k + 1, x, h, j, u, hu => by
    have ih := cellsE_at (l := l) (k := k) (by simpa using h) j u hu
    simp only [cellsE, List.flatMap_cons]
    rw [List.getElem?_append_right (by simp [It.cells]; omega)]
    have : (k + 1) * 3 + j - (It.cells y).length = k * 3 + j := by simp [It.cells]; omega
    rw [this]
    exact ih
theorem cellsE_append (l r : List It) : cellsE (l ++ r) = cellsE l ++ cellsE r := by simp [cellsE]
theorem cellsE_one (l : List It) : ∀ u ∈ cellsE l, u.oneCell' = true := by
  intro u hu
  simp only [cellsE, List.mem_flatMap, It.cells] at hu
  obtain ⟨x, _, hx⟩ := hu
  simp at hx
  rcases hx with rfl | rfl | rfl <;> rfl
theorem cellsE_drop (l : List It) (j : Nat) : cellsE (l.drop j) = (cellsE l).drop (j * 3) := by
  induction l generalizing j with
  | nil => simp [cellsE]
  | cons x l ih =>
    cases j with
    | zero => simp [cellsE]
    | succ j =>
      have := ih j
      simp only [cellsE] at this
      simp only [cellsE, List.drop_succ_cons, List.flatMap_cons]
      rw [this, show (j + 1) * 3 = (It.cells x).length + j * 3 from by simp [It.cells]; omega, List.drop_length_add_append]
theorem cellsE_take (l : List It) (j : Nat) : cellsE (l.take j) = (cellsE l).take (j * 3) := by
  induction l generalizing j with
  | nil => simp [cellsE]
  | cons x l ih =>
    cases j with
    | zero => simp [cellsE]
    | succ j =>
      have := ih j
      simp only [cellsE] at this
      simp only [cellsE, List.take_succ_cons, List.flatMap_cons]
      rw [this, show (j + 1) * 3 = (It.cells x).length + j * 3 from by simp [It.cells]; omega, List.take_length_add_append]
theorem at_take {w : World} {a : Option Addr} {xs : List Value} (h : At w a xs) (k : Nat) : At w a (xs.take k) := by
  intro g hg
  obtain ⟨o, ho, hp⟩ := h g hg
  refine ⟨o, ho, fun ad had => ?_⟩
  obtain ⟨h1, cur, e, fr, h2, h3⟩ := hp ad had
  refine ⟨h1, cur, e, fr, h2, fun j u hu => h3 j u ?_⟩
  rw [List.getElem?_take] at hu
  split at hu
  · exact hu
  · cases hu
theorem at_drop {w : World} {a : Option Addr} {xs : List Value} (h : At w a xs) (k : Nat) : At w (a.map fun x => x.add k) (xs.drop k) := by
  cases a with
  | none => intro g hg; cases hg
  | some ad =>
    obtain ⟨b, off, sp⟩ := ad
    obtain ⟨o, ho, hp⟩ := h b rfl
    obtain ⟨h1, cur, e, fr, h2, h3⟩ := hp _ rfl
    simp only [] at h1
    subst h1
    show At w (some ((⟨b, off, none⟩ : Addr).add k)) _
    rw [Sx.add_mk]
    intro g hg
    cases hg
    refine ⟨o, ho, fun ad2 had => ?_⟩
    cases had
    refine ⟨rfl, cur, e, fr, h2, fun j u hu => ?_⟩
    rw [List.getElem?_drop] at hu
    have := h3 _ _ hu
    simpa [Nat.add_assoc] using this
/-- Where the rest of a row begins. -/
def shift (a : Option Addr) (c j : Nat) : Option Addr := if c = j then a else a.map fun x => x.add (j * 3)
theorem at_end {w : World} {a : Option Addr} {n c : Nat} {l : List It} (h : At w (pt a n) (cellsE l)) (j : Nat) (hj : j ≤ n) (hc : n ≤ c) : At w (pt (shift a c j) (n - j)) (cellsE (l.drop j)) := by
  unfold shift
  by_cases h0 : n - j = 0
  · rw [show pt _ (n - j) = none from if_pos h0]
    intro g hg
    cases hg
  · rw [show pt a n = a from if_neg (by omega)] at h
    rw [show pt _ (n - j) = _ from if_neg h0, if_neg (by omega), cellsE_drop]
    exact at_drop h _
theorem at_begin {w : World} {a : Option Addr} {n : Nat} {l : List It} (h : At w (pt a n) (cellsE l)) (j : Nat) (hj : j ≤ n) : At w (pt a j) (cellsE (l.take j)) := by
  by_cases h0 : j = 0
  · rw [show pt a j = none from if_pos h0]
    intro g hg
    cases hg
  · rw [show pt a n = a from if_neg (by omega)] at h
    rw [show pt a j = a from if_neg h0, cellsE_take]
    exact at_take h _
theorem sl_end {a : Option Addr} {n c : Nat} (h : Sl a n c) (j : Nat) (hj : j ≤ n) : Sl (shift a c j) (n - j) (c - j) := by
  refine ⟨by have := h.1; omega, by have := h.2.1; omega, fun hn => ?_⟩
  unfold shift at hn
  cases a with
  | none => have := h.2.2 rfl; exact ⟨by omega, by omega⟩
  | some ad => split at hn <;> simp at hn
theorem sl_begin {a : Option Addr} {n c : Nat} (h : Sl a n c) (j : Nat) (hj : j ≤ n) : Sl a j c := ⟨by have := h.1; omega, h.2.1, fun hn => ⟨by have := (h.2.2 hn).1; omega, (h.2.2 hn).2⟩⟩
theorem slice_from (a : Option Addr) (n c j : Nat) (w : World) (h : j ≤ n) (hc : n ≤ c) : (do pure (Next.value (← Instr.sliceAt 29 (.slice a n c) (some (.int .i64 j)) none none)) : Sem Next).run Try.prog w = .ok (.value (.slice (shift a c j) (n - j) (c - j))) w := by
  have h2 : (j : Int) ≤ n := by omega
  have h3 : (n : Int) ≤ c := by omega
  unfold shift
  by_cases h4 : c = j
  · have h5 : (c : Int) = j := by omega
    simp [Instr.sliceAt, Instr.slice, run_underlying Try.underlying29, Sem.run_bind, go_sem, h2, h3, h4, h5]
  · simp [Instr.sliceAt, Instr.slice, run_underlying Try.underlying29, Sem.run_bind, go_sem, h2, h3, h4]
theorem slice_to (a : Option Addr) (n c j : Nat) (w : World) (h : j ≤ c) : (do pure (Next.value (← Instr.sliceAt 29 (.slice a n c) none (some (.int .i64 j)) none)) : Sem Next).run Try.prog w = .ok (.value (.slice a j c)) w := by
  have h2 : (j : Int) ≤ c := by omega
  simp [Instr.sliceAt, Instr.slice, run_underlying Try.underlying29, Sem.run_bind, go_sem, h2]
section
variable {W : World} {G : Option Nat} {Q : Ending → World → Prop} {ds : List Deferred}
/-- One of a row's events, whole. -/
theorem readE {ty : TypeId} {ad : Option Addr} {l : List It} {k : Nat} {x : It} {m : M} {K : Value → Tree} {a : Addr} (hty : lk env.agg ty = some (some 3)) {n : Nat} (hm : rowF (pt ad n) (cellsE l) ∈ m.facts) (hk : k < n) (ha : ad.isSome = true) (hx : l[k]? = some x)
    (haddr : a = (ad.getD ⟨0, 0, none⟩).add (k * 3)) (h : (K x.val).wpD Try.prog W G Q ds) : (Tree.load ty a m K).wpD Try.prog W G Q ds := by
  rw [pt_pos hk] at hm
  refine ⟨x.val, fun β ρ w hM => ?_, h⟩
  cases ad with
  | none => cases ha
  | some ad =>
    have := env_ok.aggN ty 3 hty a w x.cells rfl (fun j u hu => by
      have hc := (hM.at_ hm).cell (cellsE_at hx j u hu)
      rw [haddr]
      simp only [Option.getD_some]
      obtain ⟨b, o, sp⟩ := ad
      unfold Addr.add at hc ⊢
      by_cases h1 : k * 3 = 0 <;> by_cases h2 : j = 0 <;> simp_all [Nat.add_assoc])
    rw [this]
    rfl
end
theorem at2 {w : World} {a b : Option Addr} {xs ys : List Value} (h : At w a xs) (k : At w b ys) : ∀ φ ∈ [rowF a xs, rowF b ys], ∀ g, φ.g = some g → ∃ o, w.heap[g]? = some o ∧ φ.holds o := by
  intro φ hφ
  simp only [List.mem_cons, List.not_mem_nil, or_false] at hφ
  rcases hφ with rfl | rfl
  · exact h
  · exact k
theorem own_row {w : World} {base : Nat} {e : TypeId} {size : Nat} {v : Value} {n : Nat} {xs : List Value} (h : w.ownsRow base e size v n xs) : ∃ a c, v = .slice a n c ∧ Sl a n c ∧ (∀ ad, a = some ad → base ≤ ad.block) ∧ At w (pt a n) xs := by
  obtain ⟨hl, ⟨rfl, rfl⟩ | ⟨g, cap, cur, rfl, hb, hg, hn, hc, hsz, hx⟩⟩ := h
  · exact ⟨none, 0, rfl, ⟨Nat.le_refl _, Nat.zero_le _, fun _ => ⟨rfl, rfl⟩⟩, fun ad h => (by cases h), fun g hg => (by cases hg)⟩
  · refine ⟨_, cap, rfl, ⟨hn, hc, fun h => (by cases h)⟩, fun ad h => (by cases h; exact hb), ?_⟩
    by_cases h0 : n = 0
    · rw [show pt _ n = none from if_pos h0]
      intro g hg
      cases hg
    · rw [show pt _ n = _ from if_neg h0]
      intro g' hg'
      cases hg'
      refine ⟨_, hg, fun ad had => ?_⟩
      cases had
      refine ⟨rfl, cur, e, _, rfl, fun j u hu => ?_⟩
      have hj : j < n * size := by
        have := (List.getElem?_eq_some_iff.1 hu).1
        omega
      rw [← hx, List.getElem?_take, if_pos hj, Array.getElem?_toList] at hu
      simpa using hu
section
variable {P : Program} {W : World} {G : Option Nat} {Q : Ending → World → Prop} {ds : List Deferred}
theorem cellsE_pos {l : List It} {j : Nat} {u : Value} (h : (cellsE l)[j]? = some u) : 0 < l.length := by
  cases l with
  | nil => simp [cellsE] at h
  | cons x l => simp
theorem rowsE {l : List It} {a : Option Addr} {n : Nat} {m : M} {K : List Value → Tree} (hn : n = l.length) (hm : rowF (pt a n) (cellsE l) ∈ m.facts) (h : (K (cellsE l)).wpD P W G Q ds) : (Tree.rows a n 3 m K).wpD P W G Q ds := by
  refine ⟨cellsE l, by rw [cellsE_length, hn], cellsE_one l, fun β ρ w' hM' ad had j u hu => ?_, h⟩
  subst had
  have h1 := hM'.at_ hm
  rw [pt_pos (k := 0) (by have := cellsE_pos hu; omega)] at h1
  exact h1.cell hu
end
def it0 : It := ⟨0, 0, ByteArray.empty⟩
def nx (l : List It) (k : Nat) : It := l[k]?.getD it0
theorem nx_get {l : List It} {k : Nat} (h : k < l.length) : l[k]? = some (nx l k) := by unfold nx; rw [List.getElem?_eq_getElem h]; rfl
def itc (x : It) : List T := [.v (.int .i64 x.f), .v (.int .i64 x.a), .v (.string x.d)]
/-- What is known of a channel of items. -/
def chanI (g cap : Nat) (l : List It) (cl : Bool) : Fact := chanF g cap (l.map It.val) cl
/-- What a channel holds behind something is sent. -/
def sendL (cap : Nat) (l : List It) (x : It) : List It := if l.length < cap then l ++ [x] else l
def sendE (cap : Nat) (l : List It) : Int := if l.length < cap then 0 else 6
theorem in_pure {P : Program} {Q : Exit → Act → World → Prop} {a : Act} {w : World} {ops : Array Oper} {i : Nat} {l : List Nat} {o : Oper} (v : Value) (ho : ops[i]? = some o) (hw : Region.wanted o (yielded ops a.tmps) = true) (hr : (execOp a.eval o).run P w = .ok (.value v) w) (h : IN P ops l Q (a.put o.dst v) w) : IN P ops (i :: l) Q a w := in_value ho hw hr h
theorem binZ {o : Oper} {ty z : TypeId} {a2 : Act} {i : Int} {w : World} {k : Nat} (ho : o.op = .binOp .eql ty (.tmp k) (.const (.int .i64 0)) z) (h : a2.eval (.tmp k) = .int .i64 i) : (execOp a2.eval o).run Try.prog w = .ok (.value (.bool (i == 0))) w := by
  obtain ⟨d, op, t, p, af, gu⟩ := o
  simp only at ho
  subst ho
  have h0 : a2.eval (.const (.int .i64 0)) = .int .i64 0 := rfl
  simp only [execOp, h, h0]
  simp [eqGuard, go_sem]
theorem in_nil {P : Program} {ops : Array Oper} {Q : Exit → Act → World → Prop} {a : Act} {w : World} (h : Q .normal a w) : IN P ops [] Q a w := in_ops h
set_option maxHeartbeats 4000000 in
set_option maxRecDepth 100000 in
theorem send_ (g cap : Nat) (l : List It) (x : It) (w : World) (hch : ∃ o, w.heap[g]? = some o ∧ (chanI g cap l false).holds o) : Calls Try.prog 22 (List.toArray [.chan (some g), x.val]) w fun e w' =>  e = .returned (.int .i64 (sendE cap l)) ∧ w.grownBy w' (some g) ∧ ∃ o, w'.heap[g]? = some o ∧ (chanI g cap (sendL cap l x) false).holds o := by
  refine calls_of_wn Try.func22 rfl (some g) [chanI g cap l false] (fun φ hφ g' hg' => by simp only [List.mem_singleton] at hφ; subst hφ; cases hg'; exact hch) (fun w' h => by cases h.1) (fun a hst => ?_)
  refine wn_seq (wn_exec (m1 := ⟨[some (itc x, 36)], [], [chanI g cap l false]⟩) (t1 := sl 10 [(0, .v (.chan (some g))), (3, .p 0 0), (4, .v (.int .i64 0))]) (R := fun _ _ => True) env_ok [] (by kernel_rfl) .normal hst ?_ (fun a w1 hst => ?_))
  · (conv => arg 5; whnf)
    exact wp_end ⟨rfl, ⟨by repeat' first | exact trivial | refine ⟨.inl rfl, ?_⟩ | refine ⟨.inr rfl, ?_⟩, ⟨by repeat' first | exact trivial | refine ⟨.inl rfl, ?_⟩ | refine ⟨.inr rfl, ?_⟩, by repeat' first | exact trivial | refine ⟨.inl rfl, ?_⟩ | refine ⟨.inr rfl, ?_⟩, fun _ h => h⟩, rfl⟩⟩
  refine wn_seq (wn_exec (m1 := ⟨[some (itc x, 36)], [], [chanI g cap l false]⟩) (t1 := sl 10 [(4, .v (.int .i64 0)), (5, .v (.chan (some g))), (6, .v x.val)]) (R := fun _ _ => True) env_ok [] (by kernel_rfl) .normal hst ?_ (fun a w1 hst => ?_))
  · (conv => arg 5; whnf)
    exact wp_end ⟨rfl, ⟨by repeat' first | exact trivial | refine ⟨.inl rfl, ?_⟩ | refine ⟨.inr rfl, ?_⟩, ⟨by repeat' first | exact trivial | refine ⟨.inl rfl, ?_⟩ | refine ⟨.inr rfl, ?_⟩, by repeat' first | exact trivial | refine ⟨.inl rfl, ?_⟩ | refine ⟨.inr rfl, ?_⟩, fun _ h => h⟩, rfl⟩⟩
  obtain ⟨β, ρ, hm, hr, hd⟩ := hst
  obtain ⟨_, o, ho, s, r, rfl⟩ := hm.fact (chanI g cap l false) (.head _) g rfl
  have e5 : a.eval (.tmp 5) = .chan (some g) := hr.ev (.tmp 5)
  have e6 : a.eval (.tmp 6) = x.val := hr.ev (.tmp 6)
  refine wn_seq (wn_region ?_)
  show IN _ _ [0, 1, 2] _ a w1
  by_cases hc : l.length < cap
  · have hsl : sendL cap l x = l ++ [x] := if_pos hc
    have hse : sendE cap l = 0 := if_pos hc
    obtain ⟨hgr, hnew⟩ := chan_grown (b' := (List.toArray (l.map It.val)).push x.val) (c' := false) (s' := s + 1) (r' := r) ho
    refine in_comm (v := .tuple #[(.int .i64 0), .bool false]) rfl rfl (cases := #[Go.Conc.scase g x.val it0.val]) (blocking := false) (shape := .select) (by simp [execOp, e5, e6]; rfl) (fun fr cs es h => Go.Conc.step_lone_select_send_room h ho (by simpa using hc)) ?_
    have hr1 := hr.put (some 7) (show Rel β ρ (.v (.tuple #[(.int .i64 0), .bool false])) (.tuple #[(.int .i64 0), .bool false]) from rfl)
    have e7 : (a.put (some 7) (.tuple #[(.int .i64 0), .bool false])).eval (.tmp 7) = .tuple #[(.int .i64 0), .bool false] := hr1.ev (.tmp 7)
    refine in_pure (.int .i64 0) rfl rfl (by simp [execOp, e7, Instr.extract]) ?_
    have hr2 := hr1.put (some 8) (show Rel β ρ (.v ((.int .i64 0))) ((.int .i64 0)) from rfl)
    have e8 : ((a.put (some 7) (.tuple #[(.int .i64 0), .bool false])).put (some 8) ((.int .i64 0))).eval (.tmp 8) = (.int .i64 0) := hr2.ev (.tmp 8)
    refine in_pure (.bool true) rfl rfl (binZ rfl e8) ?_
    have hr3 := hr2.put (some 9) (show Rel β ρ (.v (.bool true)) (.bool true) from rfl)
    have hMn : Mem w (some g) ⟨[some (itc x, 36)], [], [chanI g cap (l ++ [x]) false]⟩ β ρ (w1.setChan g cap ((List.toArray (l.map It.val)).push x.val) false (s + 1) r false) := hm.turn (.head _) rfl (.inr rfl) hgr fun ψ hψ => by simp only [List.mem_singleton] at hψ; subst hψ; exact .inr ⟨rfl, _, hnew, s + 1, r, by simp⟩
    refine in_nil (wn_last (W := w) (G := some g) env_ok [] (by kernel_rfl) ⟨β, ρ, hMn, hr3, hd⟩ ?_)
    · rw [hsl, hse]
      (conv => arg 5; whnf)
      exact wp_back fun β ρ w' hM' => ⟨rfl, hM'.grown, (hM'.fact _ (.head _) g rfl).2⟩
  · have hsl : sendL cap l x = l := if_neg hc
    have hse : sendE cap l = 6 := if_neg hc
    refine in_comm (v := .tuple #[(.int .i64 (-1)), .bool false]) rfl rfl (cases := #[Go.Conc.scase g x.val it0.val]) (blocking := false) (shape := .select) (by simp [execOp, e5, e6]; rfl) (fun fr cs es h => Go.Conc.step_lone_select_send_full h ho (by simpa using hc)) ?_
    have hr1 := hr.put (some 7) (show Rel β ρ (.v (.tuple #[(.int .i64 (-1)), .bool false])) (.tuple #[(.int .i64 (-1)), .bool false]) from rfl)
    have e7 : (a.put (some 7) (.tuple #[(.int .i64 (-1)), .bool false])).eval (.tmp 7) = .tuple #[(.int .i64 (-1)), .bool false] := hr1.ev (.tmp 7)
    refine in_pure (.int .i64 (-1)) rfl rfl (by simp [execOp, e7, Instr.extract]) ?_
    have hr2 := hr1.put (some 8) (show Rel β ρ (.v ((.int .i64 (-1)))) ((.int .i64 (-1))) from rfl)
    have e8 : ((a.put (some 7) (.tuple #[(.int .i64 (-1)), .bool false])).put (some 8) ((.int .i64 (-1)))).eval (.tmp 8) = (.int .i64 (-1)) := hr2.ev (.tmp 8)
    refine in_pure (.bool false) rfl rfl (binZ rfl e8) ?_
    have hr3 := hr2.put (some 9) (show Rel β ρ (.v (.bool false)) (.bool false) from rfl)
    refine in_nil (wn_last (W := w) (G := some g) env_ok [] (by kernel_rfl) ⟨β, ρ, hm, hr3, hd⟩ ?_)
    · rw [hsl, hse]
      (conv => arg 5; whnf)
      exact wp_back fun β ρ w' hM' => ⟨rfl, hM'.grown, (hM'.fact _ (.head _) g rfl).2⟩
/-- What is taken out of a channel, and how that is told. -/
def recvX (l : List It) : It := match l with | x :: _ => x | [] => it0
def recvE (l : List It) (cl : Bool) : Int := match l with | _ :: _ => 0 | [] => if cl = true then 8 else 7
set_option maxHeartbeats 4000000 in
set_option maxRecDepth 100000 in
theorem receive_ (g cap : Nat) (l : List It) (cl : Bool) (w : World) (hch : ∃ o, w.heap[g]? = some o ∧ (chanI g cap l cl).holds o) : Calls Try.prog 23 (List.toArray [.chan (some g)]) w fun e w' =>  e = .returned (.tuple #[(recvX l).val, .int .i64 (recvE l cl)]) ∧ w.grownBy w' (some g) ∧ ∃ o, w'.heap[g]? = some o ∧ (chanI g cap l.tail cl).holds o := by
  refine calls_of_wn Try.func23 rfl (some g) [chanI g cap l cl] (fun φ hφ g' hg' => by simp only [List.mem_singleton] at hφ; subst hφ; cases hg'; exact hch) (fun w' h => by cases h.1) (fun a hst => ?_)
  refine wn_seq (wn_exec (m1 := ⟨[some (itc it0, 36)], [], [chanI g cap l cl]⟩) (t1 := sl 17 [(0, .v (.chan (some g))), (2, .p 0 0), (3, .v (.int .i64 0))]) (R := fun _ _ => True) env_ok [] (by kernel_rfl) .normal hst ?_ (fun a w1 hst => ?_))
  · (conv => arg 5; whnf)
    exact wp_end ⟨rfl, ⟨by repeat' first | exact trivial | refine ⟨.inl rfl, ?_⟩ | refine ⟨.inr rfl, ?_⟩, ⟨by repeat' first | exact trivial | refine ⟨.inl rfl, ?_⟩ | refine ⟨.inr rfl, ?_⟩, by repeat' first | exact trivial | refine ⟨.inl rfl, ?_⟩ | refine ⟨.inr rfl, ?_⟩, fun _ h => h⟩, rfl⟩⟩
  refine wn_seq (wn_exec (m1 := ⟨[some (itc it0, 36)], [], [chanI g cap l cl]⟩) (t1 := sl 17 [(2, .p 0 0), (3, .v (.int .i64 0)), (6, .v (.chan (some g)))]) (R := fun _ _ => True) env_ok [] (by kernel_rfl) .normal hst ?_ (fun a w1 hst => ?_))
  · (conv => arg 5; whnf)
    exact wp_end ⟨rfl, ⟨by repeat' first | exact trivial | refine ⟨.inl rfl, ?_⟩ | refine ⟨.inr rfl, ?_⟩, ⟨by repeat' first | exact trivial | refine ⟨.inl rfl, ?_⟩ | refine ⟨.inr rfl, ?_⟩, by repeat' first | exact trivial | refine ⟨.inl rfl, ?_⟩ | refine ⟨.inr rfl, ?_⟩, fun _ h => h⟩, rfl⟩⟩
  obtain ⟨β, ρ, hm, hr, hd⟩ := hst
  obtain ⟨_, o, ho, s, r, rfl⟩ := hm.fact (chanI g cap l cl) (.head _) g rfl
  have e6 : a.eval (.tmp 6) = .chan (some g) := hr.ev (.tmp 6)
  refine wn_seq (wn_region ?_)
  show IN _ _ [0, 1, 2] _ a w1
  cases l with
  | cons x l =>
    obtain ⟨hgr, hnew⟩ := chan_grown (b' := (List.toArray ((x :: l).map It.val)).extract 1 (List.toArray ((x :: l).map It.val)).size) (c' := cl) (s' := s) (r' := r + 1) ho
    refine in_comm (v := .tuple #[(.int .i64 0), .bool true, x.val]) rfl rfl (cases := #[Go.Conc.rcase g it0.val]) (blocking := false) (shape := .select) (by simp [execOp, e6]; rfl) (fun fr cs es h => Go.Conc.step_lone_select_recv_buf h ho (by simp)) ?_
    have hr1 := hr.put (some 7) (show Rel β ρ (.v (.tuple #[(.int .i64 0), .bool true, x.val])) (.tuple #[(.int .i64 0), .bool true, x.val]) from rfl)
    have e7 : (a.put (some 7) (.tuple #[(.int .i64 0), .bool true, x.val])).eval (.tmp 7) = .tuple #[(.int .i64 0), .bool true, x.val] := hr1.ev (.tmp 7)
    refine in_pure (.int .i64 0) rfl rfl (by simp [execOp, e7, Instr.extract]) ?_
    have hr2 := hr1.put (some 8) (show Rel β ρ (.v ((.int .i64 0))) ((.int .i64 0)) from rfl)
    have e8 : ((a.put (some 7) (.tuple #[(.int .i64 0), .bool true, x.val])).put (some 8) ((.int .i64 0))).eval (.tmp 8) = (.int .i64 0) := hr2.ev (.tmp 8)
    refine in_pure (.bool true) rfl rfl (binZ rfl e8) ?_
    have hr3 := hr2.put (some 9) (show Rel β ρ (.v (.bool true)) (.bool true) from rfl)
    have hMn : Mem w (some g) ⟨[some (itc it0, 36)], [], [chanI g cap l cl]⟩ β ρ (w1.setChan g cap ((List.toArray ((x :: l).map It.val)).extract 1 (List.toArray ((x :: l).map It.val)).size) cl s (r + 1) false) := hm.turn (.head _) rfl (.inr rfl) hgr fun ψ hψ => by simp only [List.mem_singleton] at hψ; subst hψ; exact .inr ⟨rfl, _, hnew, s, r + 1, by simp [List.take_of_length_le]⟩
    refine in_nil (wn_last (W := w) (G := some g) env_ok [] (by kernel_rfl) ⟨β, ρ, hMn, hr3, hd⟩ ?_)
    (conv => arg 5; whnf)
    exact wp_back fun β ρ w' hM' => ⟨rfl, hM'.grown, (hM'.fact _ (.head _) g rfl).2⟩
  | nil =>
    cases cl with
    | true =>
      refine in_comm (v := .tuple #[(.int .i64 0), .bool false, it0.val]) rfl rfl (cases := #[Go.Conc.rcase g it0.val]) (blocking := false) (shape := .select) (by simp [execOp, e6]; rfl) (fun fr cs es h => Go.Conc.step_lone_select_recv_shut h ho) ?_
      have hr1 := hr.put (some 7) (show Rel β ρ (.v (.tuple #[(.int .i64 0), .bool false, it0.val])) (.tuple #[(.int .i64 0), .bool false, it0.val]) from rfl)
      have e7 : (a.put (some 7) (.tuple #[(.int .i64 0), .bool false, it0.val])).eval (.tmp 7) = .tuple #[(.int .i64 0), .bool false, it0.val] := hr1.ev (.tmp 7)
      refine in_pure (.int .i64 0) rfl rfl (by simp [execOp, e7, Instr.extract]) ?_
      have hr2 := hr1.put (some 8) (show Rel β ρ (.v ((.int .i64 0))) ((.int .i64 0)) from rfl)
      have e8 : ((a.put (some 7) (.tuple #[(.int .i64 0), .bool false, it0.val])).put (some 8) ((.int .i64 0))).eval (.tmp 8) = (.int .i64 0) := hr2.ev (.tmp 8)
      refine in_pure (.bool true) rfl rfl (binZ rfl e8) ?_
      have hr3 := hr2.put (some 9) (show Rel β ρ (.v (.bool true)) (.bool true) from rfl)
      refine in_nil (wn_last (W := w) (G := some g) env_ok [] (by kernel_rfl) ⟨β, ρ, hm, hr3, hd⟩ ?_)
      (conv => arg 5; whnf)
      exact wp_back fun β ρ w' hM' => ⟨rfl, hM'.grown, (hM'.fact _ (.head _) g rfl).2⟩
    | false =>
      refine in_comm (v := .tuple #[(.int .i64 (-1)), .bool false, it0.val]) rfl rfl (cases := #[Go.Conc.rcase g it0.val]) (blocking := false) (shape := .select) (by simp [execOp, e6]; rfl) (fun fr cs es h => Go.Conc.step_lone_select_default h ho) ?_
      have hr1 := hr.put (some 7) (show Rel β ρ (.v (.tuple #[(.int .i64 (-1)), .bool false, it0.val])) (.tuple #[(.int .i64 (-1)), .bool false, it0.val]) from rfl)
      have e7 : (a.put (some 7) (.tuple #[(.int .i64 (-1)), .bool false, it0.val])).eval (.tmp 7) = .tuple #[(.int .i64 (-1)), .bool false, it0.val] := hr1.ev (.tmp 7)
      refine in_pure (.int .i64 (-1)) rfl rfl (by simp [execOp, e7, Instr.extract]) ?_
      have hr2 := hr1.put (some 8) (show Rel β ρ (.v ((.int .i64 (-1)))) ((.int .i64 (-1))) from rfl)
      have e8 : ((a.put (some 7) (.tuple #[(.int .i64 (-1)), .bool false, it0.val])).put (some 8) ((.int .i64 (-1)))).eval (.tmp 8) = (.int .i64 (-1)) := hr2.ev (.tmp 8)
      refine in_pure (.bool false) rfl rfl (binZ rfl e8) ?_
      have hr3 := hr2.put (some 9) (show Rel β ρ (.v (.bool false)) (.bool false) from rfl)
      refine in_nil (wn_last (W := w) (G := some g) env_ok [] (by kernel_rfl) ⟨β, ρ, hm, hr3, hd⟩ ?_)
      (conv => arg 5; whnf)
      exact wp_back fun β ρ w' hM' => ⟨rfl, hM'.grown, (hM'.fact _ (.head _) g rfl).2⟩
end Go.Proofs.Ytoaohkllkooibaa.pipe
