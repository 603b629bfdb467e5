/- Layer 8 (pipe), by contract: items are filled into a channel. -/
import Derived.Test.YtoaohkllkooibaaPipe
namespace Go.Proofs.Ytoaohkllkooibaa.pipe
open Go.RowKit Sx
set_option linter.unusedVariables false
set_option linter.unusedSimpArgs false
theorem min2_run (tys : Array TypeId) (ty : TypeId) (x y : Int) (w : World) : (do pure (Next.value (← Builtin.min_ tys ty (List.toArray [.int .i64 x, .int .i64 y]))) : Sem Next).run Try.prog w = .ok (.value (.int .i64 (min x y))) w := by
  have h : (if y < x then y else x) = min x y := by split <;> omega
  simp [Builtin.min_, Builtin.min2, h]
theorem max2_run (tys : Array TypeId) (ty : TypeId) (x y : Int) (w : World) : (do pure (Next.value (← Builtin.max_ tys ty (List.toArray [.int .i64 x, .int .i64 y]))) : Sem Next).run Try.prog w = .ok (.value (.int .i64 (max x y))) w := by
  have h : (if x < y then y else x) = max x y := by split <;> omega
  simp [Builtin.max_, Builtin.max2, h]
def pv (room : Int) (sh : Bool) (a : Option Addr) (n c : Nat) : Value := .agg #[.int .i64 room, .bool sh, .slice a n c]
/-- How much a row's channel holds. -/
def capV (room : Int) (n : Nat) : Nat := (min (max room n) ((n : Int) + 1)).toNat
theorem bytesI : ∃ i, Try.prog.info? 36 = some i ∧ i.bytes = 32 := by
  have h : (Try.prog.info? 36).map (·.bytes) = some 32 := by kernel_rfl
  obtain ⟨i, hi, hb⟩ := Option.map_eq_some_iff.1 h
  exact ⟨i, hi, hb⟩
theorem exit_in {id : Nat} {Q : Exit → Act → World → Prop} {a : Act} {w : World} (h : Q .normal a w) : Exit.inBlock id Q (.exit id) a w := by
  simp only [Exit.inBlock, if_true]
  exact h
theorem exit_then {id : Nat} {A : Act → World → Prop} {B : Exit → Act → World → Prop} {a : Act} {w : World} (h : B (.exit id) a w) : Exit.then A B (.exit id) a w := h
theorem loadO {P : Program} {o : Oper} {ty : TypeId} {x : Operand} {a2 : Act} {ad : Addr} {v : Value} {w : World} (ho : o.op = .load ty x) (h : a2.eval x = .pointer (some ad)) (hrun : (loadVar ty ad).run P w = .ok v w) : (execOp a2.eval o).run P w = .ok (.value v) w := by
  obtain ⟨d, op, t, p, af, gu⟩ := o
  simp only at ho
  subst ho
  simp [execOp, Instr.loadAt, Instr.sureAddr, h, hrun]
theorem sendO {P : Program} {o : Oper} {x y : Operand} {a2 : Act} {g : Nat} {v : Value} {w : World} (ho : o.op = .send x y) (h : a2.eval x = .chan (some g)) (h2 : a2.eval y = v) : (execOp a2.eval o).run P w = .ok (.comm #[Go.Conc.scase g v (.tuple #[])] true .send) w := by
  obtain ⟨d, op, t, p, af, gu⟩ := o
  simp only at ho
  subst ho
  simp [execOp, h, h2, Go.Conc.scase]
section
variable {P : Program} {W : World} {G : Option Nat} {R : Ending → World → Prop} {E : Env}
/-- A piece of code that comes to one of some known ends. -/
theorem wn_execI (hE : E.Ok P) (sch : List (Nat × (Ord × List Nat))) {c : Code} (hs : schedOk sch c = true) {m : M} {t : List T} {ι : Type} (ok : ι → Prop) (I : ι → M × List T) {a : Act} {w : World} {Q : Exit → Act → World → Prop} (e0 : Exit) (hst : StAt W G m t a w)
    (h : (exec E sch c m t (fun e m' t' => .done (e = e0 ∧ ∃ i, ok i ∧ Le m' t' (I i).1 (I i).2))).wpD P W G R []) (hn : ∀ i, ok i → ∀ a w, StAt W G (I i).1 (I i).2 a w → Q e0 a w) : WN P c Q a w := by
  obtain ⟨β, ρ, hm, hr, hd⟩ := hst
  refine wn_of_wp (exec_sound hE sch c hs m t _ Q β ρ a w (fun e m' t' hh β ρ a w hm hr hd => ?_) hm hr hd h)
  obtain ⟨rfl, i, hi, hle⟩ := hh
  exact hn i hi a w ⟨_, _, (hle.use hm hr).1, (hle.use hm hr).2, hd⟩
end
set_option maxHeartbeats 4000000 in
set_option maxRecDepth 100000 in
theorem filled (room : Int) (sh : Bool) (a : Option Addr) (n c : Nat) (l : List It) (w : World) (hs : Sl a n c) (hn : n = l.length) (hrow : At w (pt a n) (cellsE l)) (hl : l.length ≤ 100000) (hro : Fits room) : Calls Try.prog 20 (List.toArray [pv room sh a n c]) w fun e w' =>  ∃ g, e = .returned (.chan (some g)) ∧ Below w.heap.size w w' ∧ w.heap.size ≤ g ∧ ∃ o, w'.heap[g]? = some o ∧ (chanI g (capV room n) l sh).holds o := by
  obtain ⟨cap, hcap⟩ : ∃ cap, capV room n = cap := ⟨_, rfl⟩
  have hcap1 : min (max room (n : Int)) ((n : Int) + 1) = (cap : Nat) := by rw [← hcap]; unfold capV; omega
  have hcn : n ≤ cap := by omega
  have hc2 : cap ≤ n + 1 := by omega
  unfold Fits at hro
  obtain ⟨ii, hii, hib⟩ := bytesI
  rw [hcap]
  refine calls_of_wn Try.func20 rfl none [rowF (pt a n) (cellsE l)] (at1 hrow) (fun w' h => by obtain ⟨g, h, _⟩ := h; cases h) (fun a0 hst => ?_)
  refine wn_seq (wn_exec (m1 := ⟨[some ([.v (.int .i64 room), .v (.bool sh), .v (.slice a n c)], 31)], [], [rowF (pt a n) (cellsE l)]⟩) (t1 := sl 34 [(1, .p 0 0)]) (R := fun _ _ => True) env_ok [] (by kernel_rfl) .normal hst ?_ (fun ac w1 hst => ?_))
  · (conv => arg 5; whnf)
    exact wp_end ⟨rfl, ⟨by repeat' first | exact trivial | refine ⟨.inl rfl, ?_⟩ | refine ⟨.inr rfl, ?_⟩, ⟨by repeat' first | exact trivial | refine ⟨.inl rfl, ?_⟩ | refine ⟨.inr rfl, ?_⟩, by repeat' first | exact trivial | refine ⟨.inl rfl, ?_⟩ | refine ⟨.inr rfl, ?_⟩, fun _ h => h⟩, rfl⟩⟩
  refine wn_seq (wn_exec (m1 := ⟨[some ([.v (.int .i64 room), .v (.bool sh), .v (.slice a n c)], 31)], [], [rowF (pt a n) (cellsE l)]⟩) (t1 := sl 34 [(1, .p 0 0), (3, .v (.int .i64 (cap : Nat)))]) (R := fun _ _ => True) env_ok [] (by kernel_rfl) .normal hst ?_ (fun ac w1 hst => ?_))
  · (conv => arg 5; whnf)
    refine wp_prim (.int .i64 (max room (n : Int))) (fun w => max2_run _ _ _ _ w) ?_
    (conv => arg 5; whnf)
    refine wp_must ⟨by omega, by omega⟩ ?_
    (conv => arg 5; whnf)
    refine wp_prim (.int .i64 (cap : Nat)) (fun w => (min2_run _ _ _ _ w).trans (by rw [hcap1])) ?_
    (conv => arg 5; whnf)
    exact wp_end ⟨rfl, ⟨by repeat' first | exact trivial | refine ⟨.inl rfl, ?_⟩ | refine ⟨.inr rfl, ?_⟩, ⟨by repeat' first | exact trivial | refine ⟨.inl rfl, ?_⟩ | refine ⟨.inr rfl, ?_⟩, by repeat' first | exact trivial | refine ⟨.inl rfl, ?_⟩ | refine ⟨.inr rfl, ?_⟩, fun _ h => h⟩, rfl⟩⟩
  refine wn_seq (wn_execI (ok := fun g : Nat => w.heap.size ≤ g ∧ (rowF (pt a n) (cellsE l)).g ≠ some g) (I := fun g => (⟨[some ([.v (.int .i64 room), .v (.bool sh), .v (.slice a n c)], 31)], [], [chanI g cap ([]) false, rowF (pt a n) (cellsE l)]⟩, sl 34 [(1, .p 0 0), (4, .v (.chan (some g)))])) (R := fun _ _ => True) env_ok [] (by kernel_rfl) .normal hst ?_ (fun g hg ac w1 hst => ?_))
  · (conv => arg 5; whnf)
    refine op_makeChan rfl rfl Try.underlying54 hii (by omega) (by rw [hib]; omega) (fun g h1 h2 => ?_)
    (conv => arg 5; whnf)
    exact wp_end ⟨rfl, g, ⟨h1, h2 _ (.head _)⟩, ⟨by repeat' first | exact trivial | refine ⟨.inl rfl, ?_⟩ | refine ⟨.inr rfl, ?_⟩, ⟨by repeat' first | exact trivial | refine ⟨.inl rfl, ?_⟩ | refine ⟨.inr rfl, ?_⟩, by repeat' first | exact trivial | refine ⟨.inl rfl, ?_⟩ | refine ⟨.inr rfl, ?_⟩, fun _ h => h⟩, rfl⟩⟩
  obtain ⟨hgW, hgr0⟩ := hg
  refine wn_seq (wn_seq (wn_exec (m1 := ⟨[some ([.v (.int .i64 room), .v (.bool sh), .v (.slice a n c)], 31)], [], [chanI g cap (l.take 0) false, rowF (pt a n) (cellsE l)]⟩) (t1 := sl 34 [(1, .p 0 0), (4, .v (.chan (some g))), (21, .v (.slice a n c)), (22, .v (.int .i64 (n : Nat))), (23, .v (.int .i64 (0 : Nat)))]) (R := fun _ _ => True) env_ok [] (by kernel_rfl) .normal hst ?_ (fun ac w1 hst => ?_)))
  · (conv => arg 5; whnf)
    exact wp_end ⟨rfl, ⟨by repeat' first | exact trivial | refine ⟨.inl rfl, ?_⟩ | refine ⟨.inr rfl, ?_⟩, ⟨by repeat' first | exact trivial | refine ⟨.inl rfl, ?_⟩ | refine ⟨.inr rfl, ?_⟩, by repeat' first | exact trivial | refine ⟨.inl rfl, ?_⟩ | refine ⟨.inr rfl, ?_⟩, fun _ h => h⟩, rfl⟩⟩
  refine wn_block (wn_loop (I := fun (k : Nat) ac w1 => k ≤ n ∧ StAt w none ⟨[some ([.v (.int .i64 room), .v (.bool sh), .v (.slice a n c)], 31)], [], [chanI g cap (l.take k) false, rowF (pt a n) (cellsE l)]⟩ (sl 34 [(1, .p 0 0), (4, .v (.chan (some g))), (21, .v (.slice a n c)), (22, .v (.int .i64 (n : Nat))), (23, .v (.int .i64 (k : Nat)))]) ac w1) (μ := fun k => n - k) 0 ⟨Nat.zero_le _, hst⟩ ?_)
  rintro k a1 w1 ⟨hk, hst⟩
  refine wn_seq (wn_exec (m1 := ⟨[some ([.v (.int .i64 room), .v (.bool sh), .v (.slice a n c)], 31)], [], [chanI g cap (l.take k) false, rowF (pt a n) (cellsE l)]⟩) (t1 := sl 34 [(1, .p 0 0), (4, .v (.chan (some g))), (21, .v (.slice a n c)), (22, .v (.int .i64 (n : Nat))), (23, .v (.int .i64 (k : Nat))), (24, .v (.bool (decide ((k : Int) < (n : Int)))))]) (R := fun _ _ => True) env_ok [] (by kernel_rfl) .normal hst ?_ (fun ac w1 hst => ?_))
  · (conv => arg 5; whnf)
    exact wp_end ⟨rfl, ⟨by repeat' first | exact trivial | refine ⟨.inl rfl, ?_⟩ | refine ⟨.inr rfl, ?_⟩, ⟨by repeat' first | exact trivial | refine ⟨.inl rfl, ?_⟩ | refine ⟨.inr rfl, ?_⟩, by repeat' first | exact trivial | refine ⟨.inl rfl, ?_⟩ | refine ⟨.inr rfl, ?_⟩, fun _ h => h⟩, rfl⟩⟩
  by_cases hlt : k < n
  · have hd1 : decide ((k : Int) < (n : Int)) = true := by simp; omega
    rw [hd1] at hst
    refine wn_seq (wn_exec (m1 := ⟨[some ([.v (.int .i64 room), .v (.bool sh), .v (.slice a n c)], 31)], [], [chanI g cap (l.take k) false, rowF (pt a n) (cellsE l)]⟩) (t1 := sl 34 [(1, .p 0 0), (4, .v (.chan (some g))), (21, .v (.slice a n c)), (22, .v (.int .i64 (n : Nat))), (23, .v (.int .i64 (k : Nat)))]) (R := fun _ _ => True) env_ok [] (by kernel_rfl) .normal hst ?_ (fun ac w1 hst => ?_))
    · (conv => arg 5; whnf)
      exact wp_end ⟨rfl, ⟨by repeat' first | exact trivial | refine ⟨.inl rfl, ?_⟩ | refine ⟨.inr rfl, ?_⟩, ⟨by repeat' first | exact trivial | refine ⟨.inl rfl, ?_⟩ | refine ⟨.inr rfl, ?_⟩, by repeat' first | exact trivial | refine ⟨.inl rfl, ?_⟩ | refine ⟨.inr rfl, ?_⟩, fun _ h => h⟩, rfl⟩⟩
    have hx := nx_get (l := l) (k := k) (by omega)
    have htk : l.take (k + 1) = l.take k ++ [nx l k] := by rw [List.take_add_one, hx]; rfl
    generalize nx l k = x at hx htk
    refine wn_seq (wn_block (wn_seq (wn_exec (m1 := ⟨[some ([.v (.int .i64 room), .v (.bool sh), .v (.slice a n c)], 31), some (itc x, 36)], [], [chanI g cap (l.take k) false, rowF (pt a n) (cellsE l)]⟩) (t1 := sl 34 [(1, .p 0 0), (4, .v (.chan (some g))), (21, .v (.slice a n c)), (22, .v (.int .i64 (n : Nat))), (23, .v (.int .i64 (k : Nat))), (6, .p 1 0)]) (R := fun _ _ => True) env_ok [] (by kernel_rfl) .normal hst ?_ (fun ac w1 hst => ?_))))
    · (conv => arg 5; whnf)
      refine wp_must ⟨by omega, by omega, hs.some hlt⟩ ?_
      (conv => arg 5; whnf)
      refine readE (l := l) (k := k) (x := x) rfl (.tail _ (.head _)) hlt (hs.some hlt) hx rfl ?_
      (conv => arg 5; whnf)
      exact wp_end ⟨rfl, ⟨by repeat' first | exact trivial | refine ⟨.inl rfl, ?_⟩ | refine ⟨.inr rfl, ?_⟩, ⟨by repeat' first | exact trivial | refine ⟨.inl rfl, ?_⟩ | refine ⟨.inr rfl, ?_⟩, by repeat' first | exact trivial | refine ⟨.inl rfl, ?_⟩ | refine ⟨.inr rfl, ?_⟩, fun _ h => h⟩, rfl⟩⟩
    obtain ⟨β, ρ, hm, hr, hd⟩ := hst
    obtain ⟨_, o, ho, s, r, rfl⟩ := hm.fact (chanI g cap (l.take k) false) (.head _) g rfl
    have e4 : ac.eval (.tmp 4) = .chan (some g) := hr.ev (.tmp 4)
    obtain ⟨gb, lb, hgb, hwb, hrb, hob⟩ := hm.own 1 (itc x) _ rfl
    have hlb : lb = x.cells := vals_eqA (l := x.cells) hrb
    subst hlb
    have hrun : (loadVar 36 ⟨gb, 0, none⟩).run Try.prog w1 = .ok x.val w1 := env_ok.aggN 36 3 rfl ⟨gb, 0, none⟩ w1 x.cells rfl (fun j u hu => by
      rw [add_mk]
      simp only [World.cell?]
      rw [hwb]
      simpa using hu)
    refine wn_region ?_
    show IN _ _ [0, 1, 2] _ ac w1
    refine in_pure (.chan (some g)) rfl rfl (by simp [execOp, e4]) ?_
    have hr1 := hr.put (some 27) (show Rel β ρ (.v (.chan (some g))) (.chan (some g)) from rfl)
    obtain ⟨gb2, hgb2, e6⟩ : ∃ gb2, β[1]? = some gb2 ∧ (ac.put (some 27) (.chan (some g))).eval (.tmp 6) = .pointer (some ⟨gb2, 0, none⟩) := hr1.ev (.tmp 6)
    rw [hgb] at hgb2
    cases hgb2
    refine in_pure x.val rfl rfl (loadO rfl e6 hrun) ?_
    have hr2 := hr1.put (some 28) (show Rel β ρ (.v x.val) x.val from rfl)
    have e27 : ((ac.put (some 27) (.chan (some g))).put (some 28) x.val).eval (.tmp 27) = .chan (some g) := hr2.ev (.tmp 27)
    have e28 : ((ac.put (some 27) (.chan (some g))).put (some 28) x.val).eval (.tmp 28) = x.val := hr2.ev (.tmp 28)
    have hroom : (List.toArray ((l.take k).map It.val)).size < cap := by simp; omega
    obtain ⟨hgr, hnew⟩ := chan_grown (b' := (List.toArray ((l.take k).map It.val)).push x.val) (c' := false) (s' := s + 1) (r' := r) ho
    refine in_comm (v := undef) rfl rfl (cases := #[Go.Conc.scase g x.val (.tuple #[])]) (blocking := true) (shape := .send) (sendO rfl e27 e28) (fun fr cs es h => Go.Conc.step_lone_send_room h ho hroom) ?_
    have hMn : Mem w none ⟨[some ([.v (.int .i64 room), .v (.bool sh), .v (.slice a n c)], 31), some (itc x, 36)], [], [chanI g cap (l.take (k + 1)) false, rowF (pt a n) (cellsE l)]⟩ β ρ (w1.setChan g cap ((List.toArray ((l.take k).map It.val)).push x.val) false (s + 1) r false) := hm.turn (.head _) rfl (.inl hgW) hgr fun ψ hψ => by
      rcases List.mem_cons.1 hψ with rfl | hψ
      · exact .inr ⟨rfl, _, hnew, s + 1, r, by rw [htk]; simp⟩
      · simp only [List.mem_singleton] at hψ
        subst hψ
        exact .inl ⟨.tail _ (.head _), hgr0⟩
    refine in_nil ?_
    refine wn_exec (m1 := ⟨[some ([.v (.int .i64 room), .v (.bool sh), .v (.slice a n c)], 31)], [], [chanI g cap (l.take (k + 1)) false, rowF (pt a n) (cellsE l)]⟩) (t1 := sl 34 [(1, .p 0 0), (4, .v (.chan (some g))), (21, .v (.slice a n c)), (22, .v (.int .i64 (n : Nat))), (23, .v (.int .i64 (k + 1 : Nat)))]) (R := fun _ _ => True) env_ok [] (by kernel_rfl) .normal (W := w) (G := none) ⟨β, ρ, hMn, hr2, hd⟩ ?_ (fun ac w2 hst => ⟨k + 1, ⟨hlt, hst⟩, by show n - (k + 1) < n - k; omega⟩)
    (conv => arg 5; whnf)
    refine wp_must ⟨by omega, by omega⟩ ?_
    (conv => arg 5; whnf)
    exact wp_end ⟨rfl, ⟨by repeat' first | exact trivial | refine ⟨.inl rfl, ?_⟩ | refine ⟨.inr rfl, ?_⟩, ⟨by repeat' first | exact trivial | refine ⟨.inl rfl, ?_⟩ | refine ⟨.inr rfl, ?_⟩, by repeat' first | exact trivial | refine ⟨.inl rfl, ?_⟩ | refine ⟨.inr rfl, ?_⟩, fun _ h => h⟩, rfl⟩⟩
  · have hd1 : decide ((k : Int) < (n : Int)) = false := by simp; omega
    obtain rfl : n = k := by omega
    rw [hd1, List.take_of_length_le (by omega)] at hst
    refine wn_seq (wn_exec (m1 := ⟨[some ([.v (.int .i64 room), .v (.bool sh), .v (.slice a n c)], 31)], [], [chanI g cap (l) false, rowF (pt a n) (cellsE l)]⟩) (t1 := sl 34 [(1, .p 0 0), (4, .v (.chan (some g))), (21, .v (.slice a n c)), (22, .v (.int .i64 (n : Nat))), (23, .v (.int .i64 (n : Nat)))]) (R := fun _ _ => True) env_ok [] (by kernel_rfl) (.exit 0) hst ?_ (fun ac w1 hst => ?_))
    · (conv => arg 5; whnf)
      exact wp_end ⟨rfl, ⟨by repeat' first | exact trivial | refine ⟨.inl rfl, ?_⟩ | refine ⟨.inr rfl, ?_⟩, ⟨by repeat' first | exact trivial | refine ⟨.inl rfl, ?_⟩ | refine ⟨.inr rfl, ?_⟩, by repeat' first | exact trivial | refine ⟨.inl rfl, ?_⟩ | refine ⟨.inr rfl, ?_⟩, fun _ h => h⟩, rfl⟩⟩
    refine exit_then (exit_then (exit_in ?_))
    show WN _ _ _ ac w1
    refine wn_seq (wn_exec (m1 := ⟨[some ([.v (.int .i64 room), .v (.bool sh), .v (.slice a n c)], 31)], [], [chanI g cap (l) sh, rowF (pt a n) (cellsE l)]⟩) (t1 := sl 34 [(4, .v (.chan (some g)))]) (R := fun _ _ => True) env_ok [] (by kernel_rfl) .normal hst ?_ (fun ac w1 hst => ?_))
    · cases sh with
      | true =>
        (conv => arg 5; whnf)
        refine op_close [chanI g cap l true, rowF (pt a n) (cellsE l)] rfl rfl (.head _) (.inl hgW) (fun ψ hψ => ?_) ?_
        · rcases List.mem_cons.1 hψ with rfl | hψ
          · exact .inr rfl
          · simp only [List.mem_singleton] at hψ
            subst hψ
            exact .inl ⟨.tail _ (.head _), hgr0⟩
        (conv => arg 5; whnf)
        exact wp_end ⟨rfl, ⟨by repeat' first | exact trivial | refine ⟨.inl rfl, ?_⟩ | refine ⟨.inr rfl, ?_⟩, ⟨by repeat' first | exact trivial | refine ⟨.inl rfl, ?_⟩ | refine ⟨.inr rfl, ?_⟩, by repeat' first | exact trivial | refine ⟨.inl rfl, ?_⟩ | refine ⟨.inr rfl, ?_⟩, fun _ h => h⟩, rfl⟩⟩
      | false =>
        (conv => arg 5; whnf)
        exact wp_end ⟨rfl, ⟨by repeat' first | exact trivial | refine ⟨.inl rfl, ?_⟩ | refine ⟨.inr rfl, ?_⟩, ⟨by repeat' first | exact trivial | refine ⟨.inl rfl, ?_⟩ | refine ⟨.inr rfl, ?_⟩, by repeat' first | exact trivial | refine ⟨.inl rfl, ?_⟩ | refine ⟨.inr rfl, ?_⟩, fun _ h => h⟩, rfl⟩⟩
    refine wn_last (W := w) (G := none) env_ok [] (by kernel_rfl) hst ?_
    (conv => arg 5; whnf)
    exact wp_back fun β ρ w' hM' => ⟨g, rfl, hM'.below, hgW, (hM'.fact _ (.head _) g rfl).2⟩
end Go.Proofs.Ytoaohkllkooibaa.pipe
