/- Layer 13 (pool): what callees lay; Clone of accounts, within, the two Config. -/
import Derived.Test.YtofpmnkkimgkfaaDoorKShAll
import Derived.Test.YtofpmnkkimgkfaaDoorKQueTop
import Derived.Test.YtofpmnkkimgkfaaDoorKTxnTop
import Derived.Test.YtofpmnkkimgkfaaDoorKTxnREnc
import Derived.Test.YtofpmnkkimgkfaaDoorKQueueOpen
set_option linter.all false
set_option maxHeartbeats 4000000
set_option maxRecDepth 100000
namespace Go.Proofs.YtofpmnkkimgkfaaDoor.pool
open Go.RowKit Sx txn queue greedy shard
section
variable {P : Program} {W : World} {G : Option Nat} {Q : Ending → World → Prop} {ds : List Deferred}
def Lay (w w' : World) (old : List Fact) (e : Ending) (v : Value) (fs : List Fact) : Prop := e = .returned v ∧ Below w.heap.size w w' ∧ ∀ φ ∈ fs, ∀ g, φ.g = some g → (w.heap.size ≤ g ∨ ∃ ψ ∈ old, ψ.g = some g) ∧ ∃ o, w'.heap[g]? = some o ∧ φ.holds o
def New (W : World) (old : List Fact) (φ : Fact) : Prop := ∀ g, φ.g = some g → W.heap.size ≤ g ∨ ∃ ψ ∈ old, ψ.g = some g
theorem meetLy {ι : Type} {ok : ι → Prop} {v : ι → Value} {fs : ι → List Fact} {f : FuncId} {args : List Sx.T} {l : List Value} {m : M} {k : Value → List Fact → Tree} (old : List Fact) (hold : ∀ ψ ∈ old, ψ ∈ m.facts) (hv : valsOf args = some l) (hc : callable P f = true)
  (hC : ∀ β ρ w, Mem W G m β ρ w → Calls P f (List.toArray l) w fun e w' => ∃ i, ok i ∧ Lay w w' old e (v i) (fs i)) (h : ∀ i, ok i → (∀ φ ∈ fs i, New W old φ) → (k (v i) (fs i)).wpD P W G Q ds) : (Tree.call f args m k).wpD P W G Q ds :=
 ⟨hc, fun β ρ w vs hm hr => by
  rw [valsOf_spec _ _ _ hv hr]
  refine (hC β ρ w hm).mono fun e w' ⟨i, hi, he, hb, hg⟩ => ⟨v i, fs i, he, hb, fun φ hφ g hφg => ?_, h i hi fun φ hφ g hg' => (hg φ hφ g hg').1.elim (fun h => .inl (Nat.le_trans hm.grown.size h)) .inr⟩
  obtain ⟨h1, h2⟩ := hg φ hφ g hφg
  exact ⟨h1.elim (fun h => .inr (.inl h)) (fun ⟨ψ, h3, h4⟩ => .inr (.inr ⟨ψ, hold ψ h3, h4⟩)), h2⟩⟩
end
structure Cf where
 sh : Int
 so : Int
 hd : Int
 per : Int
 bp : Int
 fd : Int
 wk : Int
 rm : Int
def Cf.val (C : Cf) : Value := .agg #[.int .i64 C.sh, .int .i64 C.so, .int .i64 C.hd, .int .i64 C.per, .int .i64 C.bp, .int .i64 C.fd, .int .i64 C.wk, .int .i64 C.rm]
def cfgB (C : Cf) : Bool := decide (1 ≤ C.sh ∧ C.sh ≤ 8 ∧ 1 ≤ C.hd ∧ C.hd ≤ 1000 ∧ 0 ≤ C.so ∧ C.so ≤ C.hd ∧ 1 ≤ C.per ∧ C.per ≤ 16 ∧ 0 ≤ C.bp ∧ C.bp ≤ 100 ∧ 1 ≤ C.fd ∧ C.fd ≤ 16 ∧ 1 ≤ C.wk ∧ C.wk ≤ 4 ∧ 1 ≤ C.rm ∧ C.rm ≤ 8)
theorem inB_iff {n l m : Int} : inB n l m = true ↔ l ≤ n ∧ n ≤ m := by unfold inB; rw [Bool.and_eq_true, decide_eq_true_eq, decide_eq_true_eq]
theorem inB_no {n l m : Int} (h : inB n l m = false) : ¬ (l ≤ n ∧ n ≤ m) := fun k => by rw [inB_iff.2 k] at h; cases h
end Go.Proofs.YtofpmnkkimgkfaaDoor.pool
namespace Go.Proofs.YtofpmnkkimgkfaaDoor.pool
open Go.RowKit Sx txn queue greedy shard
def slotsP (P : List PA) : Int := (P.map fun x => slotsL x.2.2).sum
def pckB (C : Cf) (P : List PA) : Bool := cfgB C && shCheck 0 P 0 1 C.per && decide (slotsP P ≤ C.hd)
theorem checkV_base {s b per : Int} {l : List Tx} (h : checkV s b per l = true) : 0 ≤ s ∧ s ≤ 255 ∧ 0 ≤ b ∧ b ≤ 4294967295 ∧ (l.length : Int) ≤ per := by
 unfold checkV at h
 simp only [Bool.and_eq_true, inB_iff, decide_eq_true_eq] at h
 omega
end Go.Proofs.YtofpmnkkimgkfaaDoor.pool
namespace Go.Proofs.YtofpmnkkimgkfaaDoor.pool
open Go.RowKit Sx txn queue greedy shard
section
variable {W : World} {G : Option Nat} {Q : Ending → World → Prop} {ds : List Deferred}
end
section
variable {α β : Type}
end
end Go.Proofs.YtofpmnkkimgkfaaDoor.pool
namespace Go.Proofs.YtofpmnkkimgkfaaDoor.pool
open Go.RowKit Sx txn queue greedy shard
structure Oq where
 k : Int
 s : Int
 v : Int
 g : Int
 d : ByteArray
def Oq.val (O : Oq) : Value := .agg #[.int .i64 O.k, .int .i64 O.s, .int .i64 O.v, .int .i64 O.g, .string O.d]
structure Rq where
 e : Int
 t : Tx
 l : List Tx
 n : Int
def resV (r : Rq) (a : Option Addr) (c : Nat) : Value := .agg #[.int .i64 r.e, .int .i64 r.t.s, .int .i64 r.t.n, .int .i64 r.t.t, .int .i64 r.t.c, .int .i64 r.t.g, .string r.t.d, .slice a r.l.length c, .int .i64 r.n]
abbrev Ev := Int × Tx
def evC (q : Ev) : List Value := [.int .i64 q.1, .int .i64 q.2.s, .int .i64 q.2.n, .int .i64 q.2.t, .int .i64 q.2.c, .int .i64 q.2.g, .string q.2.d, .int .i64 0]
def cellsE (l : List Ev) : List Value := l.flatMap evC
theorem cellsE_snoc (l : List Ev) (q : Ev) : cellsE (l ++ [q]) = cellsE l ++ evC q := by simp [cellsE]
abbrev Rs3 := List PA × Rq × List Ev
structure An where
 a : Option Addr
 c : Nat
 L : List Ac
 ta : Option Addr
 tc : Nat
 ea : Option Addr
 ec : Nat
def An.ok (x : An) (R : Rs3) : Prop := x.L.map acP = R.1 ∧ (∀ y ∈ x.L, y.fit) ∧ Sl x.a x.L.length x.c ∧ Sl x.ta R.2.1.l.length x.tc ∧ Sl x.ea R.2.2.length x.ec
def An.v (x : An) (R : Rs3) : Value := .tuple #[.slice x.a x.L.length x.c, resV R.2.1 x.ta x.tc, .slice x.ea R.2.2.length x.ec]
def An.fs (x : An) (R : Rs3) : List Fact := rowF (pt x.ta R.2.1.l.length) (cellsL R.2.1.l) :: rowF (pt x.ea R.2.2.length) (cellsE R.2.2) :: acsF x.a x.L.length x.L
section
variable {W : World} {G : Option Nat} {Q : Ending → World → Prop} {ds : List Deferred}
end
theorem newO {W : World} {u : Option Addr} {n : Nat} {xs : List Value} (f : Fresh W none u) : ∀ g, (rowF (pt u n) xs).g = some g → W.heap.size ≤ g := fun g hg => by
 by_cases h : n = 0
 ·rw [show pt u n = none from if_pos h] at hg; cases hg
 ·rw [show pt u n = u from if_neg h] at hg
  cases u with
  | none => cases hg
  | some ad => cases hg; exact (f ad rfl).resolve_right (by simp)
def failP (P : List PA) (e : Int) : Rs3 := (P, ⟨e, tx0, [], 0⟩, [])
end Go.Proofs.YtofpmnkkimgkfaaDoor.pool
namespace Go.Proofs.YtofpmnkkimgkfaaDoor.pool
open Go.RowKit Sx txn queue greedy shard
def evL (κ : Int) (l : List Tx) : List Ev := l.map fun t => (κ, t)
theorem evL_take {κ : Int} {l : List Tx} {k : Nat} {x : Tx} (h : l[k]? = some x) : evL κ (l.take (k + 1)) = evL κ (l.take k) ++ [(κ, x)] := by unfold evL; rw [List.take_add_one, h, List.map_append]; rfl
theorem evL_len (κ : Int) (l : List Tx) : (evL κ l).length = l.length := List.length_map _
end Go.Proofs.YtofpmnkkimgkfaaDoor.pool
namespace Go.Proofs.YtofpmnkkimgkfaaDoor.pool
open Go.RowKit Sx txn queue greedy shard
def dropP (P : List PA) (s v : Int) : Rs3 := if (findV (getP P s).2.2 v).2 = true then (setP P ((getP P s).1, (getP P s).2.1, dropV v (getP P s).2.2), ⟨0, (findV (getP P s).2.2 v).1, [], 0⟩, [(3, (findV (getP P s).2.2 v).1)]) else failP P 7
def getR (P : List PA) (s v : Int) : Rs3 := if (findV (getP P s).2.2 v).2 = true then (P, ⟨0, (findV (getP P s).2.2 v).1, [], 0⟩, []) else failP P 7
def evictR (C : Cf) (P : List PA) (t : Tx) : Rs3 := if slotsP P ≤ C.so then failP P 7 else dropP P t.s t.n
end Go.Proofs.YtofpmnkkimgkfaaDoor.pool
namespace Go.Proofs.YtofpmnkkimgkfaaDoor.pool
open Go.RowKit Sx txn queue greedy shard
theorem putGo_bd (is : Bool) (t : Tx) : ∀ (l : List Tx) (b : Bool), (putGo is t l b).length ≤ l.length + 1 ∧ (b = true → (putGo is t l b).length ≤ l.length) ∧ ∀ x ∈ putGo is t l b, x ∈ l ∨ x = t
 | [], b => by cases b <;> simp [putGo]
 | x :: l, b => by
  obtain ⟨h1, h2, h3⟩ := putGo_bd is t l true
  obtain ⟨g1, g2, g3⟩ := putGo_bd is t l false
  have h2 := h2 rfl
  unfold putGo
  cases b with
  | true =>
   simp only [Bool.not_true, Bool.false_and, cond_false, List.length_cons]
   refine ⟨by omega, fun _ => by omega, fun y hy => ?_⟩
   rcases List.mem_cons.1 hy with rfl | hy
   ·exact .inl (.head _)
   ·exact (h3 y hy).elim (fun h => .inl (.tail _ h)) .inr
  | false =>
   simp only [Bool.not_false, Bool.true_and]
   cases (x.n == t.n) with
   | true =>
    simp only [cond_true, List.length_cons]
    refine ⟨by omega, fun h => (by cases h), fun y hy => ?_⟩
    rcases List.mem_cons.1 hy with rfl | hy
    ·exact .inr rfl
    ·exact (h3 y hy).elim (fun h => .inl (.tail _ h)) .inr
   | false =>
    cases (!is && decide (x.n > t.n)) with
    | true =>
     simp only [cond_true, cond_false, List.length_cons]
     refine ⟨by omega, fun h => (by cases h), fun y hy => ?_⟩
     rcases List.mem_cons.1 hy with rfl | hy
     ·exact .inr rfl
     ·rcases List.mem_cons.1 hy with rfl | hy
      ·exact .inl (.head _)
      ·exact (h3 y hy).elim (fun h => .inl (.tail _ h)) .inr
    | false =>
     simp only [cond_false, List.length_cons]
     refine ⟨by omega, fun h => (by cases h), fun y hy => ?_⟩
     rcases List.mem_cons.1 hy with rfl | hy
     ·exact .inl (.head _)
     ·exact (g3 y hy).elim (fun h => .inl (.tail _ h)) .inr
theorem putV_bd (t : Tx) (l : List Tx) : (putV t l).length ≤ l.length + 1 ∧ ∀ x ∈ putV t l, x ∈ l ∨ x = t := ⟨(putGo_bd _ t l false).1, (putGo_bd _ t l false).2.2⟩
theorem placeV_ok {s b per : Int} {l : List Tx} {t : Tx} {bump : Int} (h : (placeV s b per l t bump).2 = 0) : checkV s b per l = true ∧ t.ok = true ∧ t.s = s ∧ b ≤ t.n ∧ inB bump 0 100 = true ∧ -13 ≤ (placeV s b per l t bump).1 ∧ (placeV s b per l t bump).1 ≤ 13 := by
 unfold placeV at h ⊢
 cases h1 : (checkV s b per l && t.ok && (t.s == s) && inB bump 0 100) with
 | false => rw [h1] at h; exact absurd h (by simp)
 | true =>
  rw [h1] at h
  simp only [Bool.and_eq_true, beq_iff_eq] at h1
  cases h2 : decide (t.n < b) with
  | true => rw [h2] at h; exact absurd h (by simp)
  | false =>
   rw [h2] at h
   have h3 := of_decide_eq_false h2
   refine ⟨h1.1.1.1, h1.1.1.2, h1.1.2, by omega, h1.2, ?_⟩
   simp only [Bool.not_true, cond_false]
   have hb1 := slotV_bd t
   have hb2 := slotV_bd (findV l t.n).1
   cases (findV l t.n).2 with
   | true =>
    simp only [cond_true]
    unfold replV
    cases (!rz.raiseB (findV l t.n).1.t bump || decide (t.t < rz.raiseV (findV l t.n).1.t bump)) with
    | true => simp
    | false => simp only [cond_false]; omega
   | false =>
    simp only [cond_false]
    cases ((l.length : Int) == per) with
    | true => simp
    | false => simp only [cond_false]; omega
section
variable {P : Program} {W : World} {G : Option Nat} {Q : Ending → World → Prop} {ds : List Deferred}
theorem meet2F {f : FuncId} {args : List Sx.T} {l : List Value} {m : M} {k : Value → List Fact → Tree} {n n2 : Nat} {v : Option Addr → Nat → Option Addr → Nat → Value} {xs ys : List Value} (hv : valsOf args = some l) (hc : callable P f = true)
  (hC : ∀ β ρ w, Mem W G m β ρ w → Calls P f (List.toArray l) w fun e w' => ∃ i : Two, (Sl i.1.1 n i.1.2 ∧ Sl i.2.1 n2 i.2.2) ∧ Gives w w' e (v i.1.1 i.1.2 i.2.1 i.2.2) [rowF (pt i.1.1 n) xs, rowF (pt i.2.1 n2) ys]) (h : ∀ a c a2 c2, Sl a n c → Sl a2 n2 c2 → (∀ φ ∈ [rowF (pt a n) xs, rowF (pt a2 n2) ys], ∀ g, φ.g = some g → W.heap.size ≤ g) → (k (v a c a2 c2) [rowF (pt a n) xs, rowF (pt a2 n2) ys]).wpD P W G Q ds) : (Tree.call f args m k).wpD P W G Q ds :=
 meetR (ι := Two) (ok := fun i => (Sl i.1.1 n i.1.2 ∧ Sl i.2.1 n2 i.2.2) ∧ ∀ φ ∈ [rowF (pt i.1.1 n) xs, rowF (pt i.2.1 n2) ys], ∀ g, φ.g = some g → W.heap.size ≤ g) (v := fun i => v i.1.1 i.1.2 i.2.1 i.2.2) (fs := fun i => [rowF (pt i.1.1 n) xs, rowF (pt i.2.1 n2) ys]) hc (fun β ρ w vs hm hr => by
  rw [valsOf_spec _ _ _ hv hr]
  exact (hC β ρ w hm).mono fun e w' ⟨i, hi, hg⟩ => ⟨i, ⟨hi, fun φ hφ g hgg => Nat.le_trans hm.grown.size (hg.2.2 φ hφ g hgg).1⟩, hg⟩) (fun i hi => h i.1.1 i.1.2 i.2.1 i.2.2 hi.1.1 hi.1.2 hi.2)
end
def addR (C : Cf) (P : List PA) (d : ByteArray) : Rs3 :=
 match dec d.data.toList with
 | none => failP P 2
 | some t =>
  if (placeV (getP P t.s).1 (getP P t.s).2.1 C.per (getP P t.s).2.2 t C.bp).2 = 0 then
   (if C.hd < slotsP P + (placeV (getP P t.s).1 (getP P t.s).2.1 C.per (getP P t.s).2.2 t C.bp).1 then failP P 6
   else (setP P ((getP P t.s).1, (getP P t.s).2.1, putV t (getP P t.s).2.2), ⟨0, tx0, [], 0⟩, [(if (findV (getP P t.s).2.2 t.n).2 = true then 2 else 1, t)]))
  else failP P (placeV (getP P t.s).1 (getP P t.s).2.1 C.per (getP P t.s).2.2 t C.bp).2
theorem addR_some {C : Cf} {P : List PA} {d : ByteArray} {t : Tx} (h : dec d.data.toList = some t) : addR C P d = if (placeV (getP P t.s).1 (getP P t.s).2.1 C.per (getP P t.s).2.2 t C.bp).2 = 0 then
   (if C.hd < slotsP P + (placeV (getP P t.s).1 (getP P t.s).2.1 C.per (getP P t.s).2.2 t C.bp).1 then failP P 6
   else (setP P ((getP P t.s).1, (getP P t.s).2.1, putV t (getP P t.s).2.2), ⟨0, tx0, [], 0⟩, [(if (findV (getP P t.s).2.2 t.n).2 = true then 2 else 1, t)]))
  else failP P (placeV (getP P t.s).1 (getP P t.s).2.1 C.per (getP P t.s).2.2 t C.bp).2 := by unfold addR; rw [h]
def advR (P : List PA) (s y : Int) : Rs3 :=
 if inB s 0 255 = true then
  (if advV (getP P s).2.1 y = 0 then (setP P ((getP P s).1, y, above y (getP P s).2.2), ⟨0, tx0, below y (getP P s).2.2, 0⟩, evL 3 (below y (getP P s).2.2))
  else failP P (advV (getP P s).2.1 y))
 else failP P 1
end Go.Proofs.YtofpmnkkimgkfaaDoor.pool
namespace Go.Proofs.YtofpmnkkimgkfaaDoor.pool
open Go.RowKit Sx txn queue greedy shard
end Go.Proofs.YtofpmnkkimgkfaaDoor.pool
namespace Go.Proofs.YtofpmnkkimgkfaaDoor.pool
open Go.RowKit Sx txn queue greedy shard
def doR (C : Cf) (P : List PA) (wt : Tx) (tl : List Tx) (O : Oq) : Rs3 :=
 if pckB C P = true then
  (if O.k = 0 then addR C P O.d else if O.k = 1 then dropP P O.s O.v else if O.k = 2 then advR P O.s O.v else if O.k = 3 then getR P O.s O.v
  else if O.k = 4 then (P, ⟨0, tx0, [], slotsP P⟩, []) else if O.k = 5 then (P, ⟨0, tx0, tl, 0⟩, []) else if O.k = 6 then evictR C P wt else failP P 1)
 else failP P 1
end Go.Proofs.YtofpmnkkimgkfaaDoor.pool
namespace Go.Proofs.YtofpmnkkimgkfaaDoor.pool
open Go.RowKit Sx txn queue greedy shard
end Go.Proofs.YtofpmnkkimgkfaaDoor.pool
namespace Go.Proofs.YtofpmnkkimgkfaaDoor.pool
open Go.RowKit Sx txn queue greedy shard
end Go.Proofs.YtofpmnkkimgkfaaDoor.pool
namespace Go.Proofs.YtofpmnkkimgkfaaDoor.pool
open Go.RowKit Sx txn queue greedy shard
end Go.Proofs.YtofpmnkkimgkfaaDoor.pool
namespace Go.Proofs.YtofpmnkkimgkfaaDoor.pool
open Go.RowKit Sx txn queue greedy shard
theorem ev_neq (x y : Operand) (q : Ev) (w : World) : (do eqGuard .neq 65 x y (.agg (evC q).toArray) (.agg (evC q).toArray); pure (Next.value (← binOp .neq 65 (.agg (evC q).toArray) (.agg (evC q).toArray))) : Sem Next).run Tryd.prog w = .ok (.value (.bool false)) w := by
 simp [evC, eqGuard, go_sem]
theorem cellsE_at : ∀ {l : List Ev} {k : Nat} {x : Ev}, l[k]? = some x → ∀ (j : Nat) (u : Value), (evC x)[j]? = some u → (cellsE l)[k * 8 + j]? = some u
 | [], k, x, h => by cases h
 | y :: l, 0, x, h => by
  cases h
  intro j u hu
  have hj : j < (evC y).length := (List.getElem?_eq_some_iff.1 hu).1
  show ((evC y) ++ cellsE l)[0 * 8 + j]? = some u
  rw [show 0 * 8 + j = j by omega, List.getElem?_append_left hj]
  exact hu
 | y :: l, k + 1, x, h => by
  intro j u hu
  have := cellsE_at (l := l) (k := k) (x := x) h j u hu
  show ((evC y) ++ cellsE l)[(k + 1) * 8 + j]? = some u
  have hl : (evC y).length = 8 := rfl
  rw [List.getElem?_append_right (by omega), hl, show (k + 1) * 8 + j - 8 = k * 8 + j by omega]
  exact this
theorem revents (l : List Ev) (a : Option Addr) (c : Nat) (a2 : Option Addr) (c2 : Nat) (w : World) (hs : Sl a l.length c) (hrow : At w (pt a l.length) (cellsE l)) (hs2 : Sl a2 l.length c2) (hrow2 : At w (pt a2 l.length) (cellsE l)) :
  Calls Tryd.prog 37 (List.toArray [.slice a l.length c, .slice a2 l.length c2]) w fun e w' => e = .returned (.bool true) ∧ Below w.heap.size w w' := by
 have hn63 := hs.le
 refine calls_of_exec Sxs.env_ok.keeps Tryd.func37 rfl [(6, (line [0, 1, 2, 3, 4, 5, 6, 7, 8], []))] (schedQ_ok _ _ (by kernel_rfl)) [rowF (pt a l.length) (cellsE l), rowF (pt a2 l.length) (cellsE l)] (fun φ hφ g hg => by simp only [List.mem_cons, List.not_mem_nil, or_false] at hφ; rcases hφ with rfl | rfl <;> first | exact hrow g hg | exact hrow2 g hg) ?_
 conv=>arg 5;whnf
 refine wp_br (fun h => absurd h (by simp)) (fun h => ?_)
 conv=>arg 5;whnf
 refine loop_rule Sxs.env_ok.keeps [(6, (line [0, 1, 2, 3, 4, 5, 6, 7, 8], []))] (schedQ_ok _ _ (by kernel_rfl)) (fun k : Nat => k ≤ l.length) (fun k => (⟨[], [], [rowF (pt a l.length) (cellsE l), rowF (pt a2 l.length) (cellsE l)]⟩, [.v (.slice a l.length c), .v (.slice a2 l.length c2), .any, .any, .any, .v (.int .i64 k), .any, .any, .any, .any, .any, .any, .any, .any, .any, .any, .any, .any, .any, .any, .any, .any, .any, .any, .any, .any])) (fun k => l.length - k) 0 (Nat.zero_le _) ⟨by repeat' first | exact trivial | refine ⟨.inl rfl, ?_⟩ | refine ⟨.inr rfl, ?_⟩, ⟨by repeat' first | exact trivial | refine ⟨.inl rfl, ?_⟩ | refine ⟨.inr rfl, ?_⟩, by repeat' first | exact trivial | refine ⟨.inl rfl, ?_⟩ | refine ⟨.inr rfl, ?_⟩, fun _ h => h⟩, rfl⟩ ?_
 intro k hk
 conv=>arg 5;whnf
 refine wp_br (fun h1 => ?_) (fun h1 => ?_)
 ·have hlt : k < l.length := by have h3 := of_decide_eq_true (show decide ((k : Int) < (l.length : Int)) = true from h1); omega
  obtain ⟨x, hx⟩ : ∃ x, l[k]? = some x := ⟨_, List.getElem?_eq_getElem (by omega)⟩
  conv=>arg 5;whnf
  refine wp_must ⟨by omega, by show (k : Int) < (l.length : Int); omega, hs.some hlt⟩ ?_
  conv=>arg 5;whnf
  refine readG Sxs.env_ok (vs := evC x) (sz := 8) (k := k) rfl rfl (.head _) hlt (hs.some hlt) (cellsE_at hx) rfl ?_
  conv=>arg 5;whnf
  refine wp_must ⟨by omega, by show (k : Int) < (l.length : Int); omega, hs2.some hlt⟩ ?_
  conv=>arg 5;whnf
  refine readG Sxs.env_ok (vs := evC x) (sz := 8) (k := k) rfl rfl (by exact .tail _ (.head _)) hlt (hs2.some hlt) (cellsE_at hx) rfl ?_
  conv=>arg 5;whnf
  refine wp_prim (.bool false) (fun w => ev_neq _ _ x w) ?_
  conv=>arg 5;whnf
  refine wp_must ⟨by show -9223372036854775808 ≤ (k : Int) + 1; omega, by show (k : Int) + 1 ≤ 9223372036854775807; omega⟩ ?_
  conv=>arg 5;whnf
  refine wp_end ⟨k + 1, hlt, ⟨by repeat' first | exact trivial | refine ⟨.inl rfl, ?_⟩ | refine ⟨.inr rfl, ?_⟩, ⟨by repeat' first | exact trivial | refine ⟨.inl rfl, ?_⟩ | refine ⟨.inr rfl, ?_⟩, by repeat' first | exact trivial | refine ⟨.inl rfl, ?_⟩ | refine ⟨.inr rfl, ?_⟩, fun _ h => h⟩, rfl⟩, by show l.length - (k + 1) < l.length - k; omega⟩
 ·skip
  conv=>arg 5;whnf
  exact wp_back fun β ρ w' hM' => ⟨rfl, hM'.below⟩
theorem rsameR (r : Rq) (ta : Option Addr) (tc : Nat) (tb : Option Addr) (td : Nat) (w : World) (hs : Sl ta r.l.length tc) (hrow : At w (pt ta r.l.length) (cellsL r.l)) (hs2 : Sl tb r.l.length td) (hrow2 : At w (pt tb r.l.length) (cellsL r.l)) :
  Calls Tryd.prog 17 (List.toArray [resV r ta tc, resV r tb td]) w fun e w' => e = .returned (.bool true) ∧ Below w.heap.size w w' := by
 have TX := fun w hr hr2 => rtxs r.l ta r.l.length tc tb td w hs rfl hr hs2 hr2
 refine calls_of_exec Sxs.env_ok.keeps Tryd.func17 rfl [] (schedQ_ok _ _ (by kernel_rfl)) [rowF (pt ta r.l.length) (cellsL r.l), rowF (pt tb r.l.length) (cellsL r.l)] (fun φ hφ g hg => by simp only [List.mem_cons, List.not_mem_nil, or_false] at hφ; rcases hφ with rfl | rfl <;> first | exact hrow g hg | exact hrow2 g hg) ?_
 conv=>arg 5;whnf
 refine wp_g1 (fun _ => ?_) (fun h => by simp at h)
 conv=>arg 5;whnf
 refine wp_prim (.bool true) (fun w => eq_same' _ _ r.t w) ?_
 conv=>arg 5;whnf
 refine wp_g1 (fun _ => ?_) (fun h => by simp at h)
 conv=>arg 5;whnf
 refine meetc (f := 44) (v := .bool true) rfl (by kernel_rfl) (fun β ρ w' hM' => TX w' (hM'.at_ (.head _)) (hM'.at_ (.tail _ (.head _)))) ?_
 conv=>arg 5;whnf
 exact wp_back fun β ρ w' hM' => ⟨rfl, hM'.below⟩
def toA (p : PA) : Ac := ⟨p.1, p.2.1, none, p.2.2.length, 0, p.2.2⟩
def tplP (P : List PA) (g : Int) : List Tx := templateV (P.map toA) g
def worP (P : List PA) : Tx := (worstV (P.map toA)).1
def doP (C : Cf) (P : List PA) (O : Oq) : Rs3 := doR C P (worP P) (tplP P O.g) O
end Go.Proofs.YtofpmnkkimgkfaaDoor.pool
namespace Go.Proofs.YtofpmnkkimgkfaaDoor.pool
open Go.RowKit Sx txn queue greedy shard
def Oq.cs (O : Oq) : List Value := [.int .i64 O.k, .int .i64 O.s, .int .i64 O.v, .int .i64 O.g, .string O.d]
end Go.Proofs.YtofpmnkkimgkfaaDoor.pool
namespace Go.Proofs.YtofpmnkkimgkfaaDoor.pool
open Go.RowKit Sx txn queue greedy shard
abbrev T1 : Tx := ⟨1, 0, 5, 9, 10, ByteArray.empty⟩
abbrev T2 : Tx := ⟨2, 0, 4, 9, 10, ByteArray.empty⟩
abbrev T3 : Tx := ⟨3, 0, 4, 9, 10, ByteArray.empty⟩
abbrev C0 : Cf := ⟨2, 1, 2, 2, 0, 1, 1, 1⟩
def bz (x : Tx) : ByteArray := ⟨(encV x).toArray⟩
theorem dec_bz {x : Tx} (h : x.ok = true) : dec (bz x).data.toList = some x := (dec_iff _ _).2 ⟨h, by show (encV x).toArray.toList = enc x; unfold encV; rw [if_pos h]⟩
theorem do_add {C : Cf} {P : List PA} {s v g : Int} {d : ByteArray} {t : Tx} {R : Rs3} (h : dec d.data.toList = some t) (hp : pckB C P = true) (e : (if (placeV (getP P t.s).1 (getP P t.s).2.1 C.per (getP P t.s).2.2 t C.bp).2 = 0 then
   (if C.hd < slotsP P + (placeV (getP P t.s).1 (getP P t.s).2.1 C.per (getP P t.s).2.2 t C.bp).1 then failP P 6
   else (setP P ((getP P t.s).1, (getP P t.s).2.1, putV t (getP P t.s).2.2), ⟨0, tx0, [], 0⟩, [(if (findV (getP P t.s).2.2 t.n).2 = true then 2 else 1, t)]))
  else failP P (placeV (getP P t.s).1 (getP P t.s).2.1 C.per (getP P t.s).2.2 t C.bp).2) = R) : doP C P ⟨0, s, v, g, d⟩ = R := by
 unfold doP doR
 rw [if_pos hp, if_pos rfl, addR_some h]
 exact e
abbrev A1 : PA := (1, 0, [T1])
abbrev A2 : PA := (2, 0, [T2])
abbrev A4 : PA := (1, 4, [])
theorem q1 : doP C0 [] ⟨0, 0, 0, 0, bz T1⟩ = ([A1], ⟨0, tx0, [], 0⟩, [(1, T1)]) := do_add (dec_bz rfl) (by kernel_rfl) (by kernel_rfl)
theorem q2 : doP C0 [A1] ⟨0, 0, 0, 0, bz T2⟩ = ([A1, A2], ⟨0, tx0, [], 0⟩, [(1, T2)]) := do_add (dec_bz rfl) (by kernel_rfl) (by kernel_rfl)
theorem q3 : doP C0 [A1, A2] ⟨0, 0, 0, 0, bz T3⟩ = ([A1, A2], ⟨6, tx0, [], 0⟩, []) := do_add (dec_bz rfl) (by kernel_rfl) (by kernel_rfl)
theorem q9 : doP C0 [A4] ⟨0, 0, 0, 0, bz T1⟩ = ([A4], ⟨3, tx0, [], 0⟩, []) := do_add (dec_bz rfl) (by kernel_rfl) (by kernel_rfl)
end Go.Proofs.YtofpmnkkimgkfaaDoor.pool
namespace Go.Proofs.YtofpmnkkimgkfaaDoor.pool
open Go.RowKit Sx txn queue greedy shard
section
variable {P : Program} {W : World} {G : Option Nat} {Q : Ending → World → Prop} {ds : List Deferred}
end
theorem enc_ (x : Tx) (hok : x.ok = true) (w : World) (hd : x.d.size ≤ maxLen) : Calls Tryd.prog 24 (List.toArray [x.val]) w fun e w' => e = .returned (.tuple #[.string (bz x), .bool true]) ∧ Below w.heap.size w w' := by
 have := rencode x w hd
 rw [hok] at this
 exact this
end Go.Proofs.YtofpmnkkimgkfaaDoor.pool
namespace Go.Proofs.YtofpmnkkimgkfaaDoor.pool
open Go.RowKit Go.ChangeShapes Go.WideShapes Sx txn queue greedy shard
theorem typed_cfg : Typed Tryd.prog 23 (.flat [.int, .int, .int, .int, .int, .int, .int, .int]) := .struct Tryd.underlying23 (.cons rfl typed_int (.cons rfl typed_int (.cons rfl typed_int (.cons rfl typed_int (.cons rfl typed_int (.cons rfl typed_int (.cons rfl typed_int (.cons rfl typed_int (.nil))))))))) (by kernel_rfl)
abbrev shOp : List Sh := [.int, .int, .int, .int, .str]
theorem typed_op : Typed Tryd.prog 28 (.flat shOp) := .struct Tryd.underlying28 (.cons rfl typed_int (.cons rfl typed_int (.cons rfl typed_int (.cons rfl typed_int (.cons rfl typed_string .nil))))) (by kernel_rfl)
def Oq.fits (O : Oq) : Prop := Fits O.k ∧ Fits O.s ∧ Fits O.v ∧ Fits O.g ∧ O.d.size ≤ maxLen
theorem lies_op {w : World} {vs : List Value} {ds : List D} (h : LiesL w shOp vs ds) : ∃ O : Oq, vs = O.cs ∧ O.fits := by
 cases h with
 | cons h0 h =>
 cases h with
 | cons h1 h =>
 cases h with
 | cons h2 h =>
 cases h with
 | cons h3 h =>
 cases h with
 | cons h4 h =>
 cases h
 cases h0 with
 | int f0 =>
 cases h1 with
 | int f1 =>
 cases h2 with
 | int f2 =>
 cases h3 with
 | int f3 =>
 cases h4 with
 | str f4 =>
 exact ⟨⟨_, _, _, _, _⟩, rfl, f0, f1, f2, f3, f4⟩
section
variable {H : Type} {enc : TypeId × Value → H} {W : World} {r : Reach} {b0 base : Nat} {spare : Nat → Bool} {held : Bool} {v : Value} {d : DataW H} {p : List MemPlace}
theorem open_cfg (hv : Value.okWide Tryd.prog W r b0 23 v) (h : DataW.Trod enc Tryd.prog W base spare held 23 v d p) : ∃ C : Cf, v = C.val ∧ True := by
 obtain ⟨vs, ds, rfl, hl⟩ := open_struct Tryd.underlying23 typed_cfg hv h
 cases hl with
 | cons h0 hl =>
 cases hl with
 | cons h1 hl =>
 cases hl with
 | cons h2 hl =>
 cases hl with
 | cons h3 hl =>
 cases hl with
 | cons h4 hl =>
 cases hl with
 | cons h5 hl =>
 cases hl with
 | cons h6 hl =>
 cases hl with
 | cons h7 hl =>
 cases hl
 cases h0 with
 | int f0 =>
 cases h1 with
 | int f1 =>
 cases h2 with
 | int f2 =>
 cases h3 with
 | int f3 =>
 cases h4 with
 | int f4 =>
 cases h5 with
 | int f5 =>
 cases h6 with
 | int f6 =>
 cases h7 with
 | int f7 =>
 exact ⟨⟨_, _, _, _, _, _, _, _⟩, rfl, trivial⟩
theorem open_op (hv : Value.okWide Tryd.prog W r b0 28 v) (h : DataW.Trod enc Tryd.prog W base spare held 28 v d p) : ∃ O : Oq, v = O.val ∧ O.fits := by
 obtain ⟨vs, ds, rfl, hl⟩ := open_struct Tryd.underlying28 typed_op hv h
 obtain ⟨O, rfl, hO⟩ := lies_op hl
 exact ⟨O, rfl, hO⟩
end
end Go.Proofs.YtofpmnkkimgkfaaDoor.pool
namespace Go.Proofs.YtofpmnkkimgkfaaDoor.pool
open Go.RowKit Sx txn queue greedy shard
end Go.Proofs.YtofpmnkkimgkfaaDoor.pool
