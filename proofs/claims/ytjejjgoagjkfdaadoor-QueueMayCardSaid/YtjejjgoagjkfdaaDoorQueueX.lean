/- Layer 5 (queue): the document's Small; hopperlaw05's own answers. -/
import Derived.Test.YtjejjgoagjkfdaaDoorQueueW
import Derived.Test.YtjejjgoagjkfdaaDoorQueueV
namespace Go.Proofs.YtjejjgoagjkfdaaDoor.queue
open Go.RowKit Sx txn
set_option linter.unusedVariables false
set_option linter.unusedSimpArgs false
/-- Has an account little? -/
theorem rsmallA (s b : Int) (l : List Tx) (a : Option Addr) (n c : Nat) (w : World) (hs : Sl a n c) (hn : n = l.length) (hrow : At w (pt a n) (cellsL l)) :
    Calls Tryd.prog 16 (List.toArray [acc s b a n c]) w fun e w' => e = .returned (.bool (fewB l && decide ((n : Int) ≤ 30))) ∧ Below w.heap.size w w' := by
  refine calls_of_exec env_ok Tryd.func16 rfl [] (by kernel_rfl) [rowF (pt a n) (cellsL l)] (at1 hrow) ?_
  (conv => arg 5; whnf)
  refine meetc rfl (by kernel_rfl) (fun β ρ w' hM' => rfew l a n c 30 w' hs hn (hM'.at_ List.mem_cons_self)) ?_
  (conv => arg 5; whnf)
  exact wp_back fun β ρ w' hM' => ⟨rfl, hM'.below⟩
def T (n t : Int) : Tx := ⟨1, n, t, 1000, 1, ByteArray.empty⟩
theorem T_le (n t : Int) : (T n t).d.size ≤ maxLen := Nat.zero_le _
theorem tx_ (n t : Int) (w : World) : Calls Tryd.prog 54 (List.toArray [.int .i64 n, .int .i64 t]) w fun e w' => e = .returned (T n t).val ∧ Below w.heap.size w w' := by
  refine calls_of_exec env_ok Tryd.func54 rfl [] (by kernel_rfl) [] (by simp) ?_
  (conv => arg 5; whnf)
  exact wp_back fun β ρ w' hM' => ⟨rfl, hM'.below⟩
theorem meet1' {P : Program} {W : World} {G : Option Nat} {Q : Ending → World → Prop} {ds : List Deferred} {f : FuncId} {args : List Sx.T} {l : List Value} {m : M} {k : Value → List Fact → Tree} {n : Nat} {v : Option Addr → Nat → Value} {xs : List Value} (hv : valsOf args = some l) (hc : callable P f = true)
    (hC : ∀ β ρ w, Mem W G m β ρ w → Calls P f (List.toArray l) w fun e w' => ∃ i : One, Sl i.1 n i.2 ∧ Gives w w' e (v i.1 i.2) [rowF (pt i.1 n) xs]) (h : ∀ a c, Sl a n c → (k (v a c) [rowF (pt a n) xs]).wpD P W G Q ds) : (Tree.call f args m k).wpD P W G Q ds :=
  meetR (ι := One) (ok := fun i => Sl i.1 n i.2) (v := fun i => v i.1 i.2) (fs := fun i => [rowF (pt i.1 n) xs]) hc (fun β ρ w vs hm hr => by rw [valsOf_spec _ _ _ hv hr]; exact hC β ρ w hm) (fun i hi => h i.1 i.2 hi)
theorem meet2' {P : Program} {W : World} {G : Option Nat} {Q : Ending → World → Prop} {ds : List Deferred} {f : FuncId} {args : List Sx.T} {l : List Value} {m : M} {k : Value → List Fact → Tree} {n n2 : Nat} {v : Option Addr → Nat → Option Addr → Nat → Value} {xs ys : List Value} (hv : valsOf args = some l) (hc : callable P f = true)
    (hC : ∀ β ρ w, Mem W G m β ρ w → Calls P f (List.toArray l) w fun e w' => ∃ i : Two, (Sl i.1.1 n i.1.2 ∧ Sl i.2.1 n2 i.2.2) ∧ Gives w w' e (v i.1.1 i.1.2 i.2.1 i.2.2) [rowF (pt i.1.1 n) xs, rowF (pt i.2.1 n2) ys]) (h : ∀ a c a2 c2, Sl a n c → Sl a2 n2 c2 → (k (v a c a2 c2) [rowF (pt a n) xs, rowF (pt a2 n2) ys]).wpD P W G Q ds) : (Tree.call f args m k).wpD P W G Q ds :=
  meetR (ι := Two) (ok := fun i => Sl i.1.1 n i.1.2 ∧ Sl i.2.1 n2 i.2.2) (v := fun i => v i.1.1 i.1.2 i.2.1 i.2.2) (fs := fun i => [rowF (pt i.1.1 n) xs, rowF (pt i.2.1 n2) ys]) hc (fun β ρ w vs hm hr => by rw [valsOf_spec _ _ _ hv hr]; exact hC β ρ w hm) (fun i hi => h i.1.1 i.1.2 i.2.1 i.2.2 hi.1 hi.2)
theorem placeL (s b per : Int) (l : List Tx) (a : Option Addr) (n c : Nat) (t : Tx) (bump x y : Int) (w : World) (hM : Most w) (hs : Sl a n c) (hn : n = l.length) (hd : ∀ x ∈ l, x.d.size ≤ maxLen) (hdt : t.d.size ≤ maxLen) (e : placeV s b per l t bump = (x, y)) (hrow : At w (pt a n) (cellsL l)) : Calls Tryd.prog 28 (List.toArray [acc s b a n c, t.val, .int .i64 per, .int .i64 bump]) w fun e w' =>  e = .returned (.tuple #[.int .i64 x, .int .i64 y]) ∧ Below w.heap.size w w' := by
  have := place s b per l a n c t bump w hM hs hn hrow hd hdt
  rw [e] at this
  exact this
theorem putL (s b : Int) (l ys : List Tx) (a : Option Addr) (n c : Nat) (t : Tx) (w : World) (hs : Sl a n c) (hn : n = l.length) (hl : l.length ≤ 100000) (e : putV t l = ys) (hrow : At w (pt a n) (cellsL l)) : Calls Tryd.prog 33 (List.toArray [acc s b a n c, t.val]) w fun e w' =>  ∃ i : One, Sl i.1 ys.length i.2 ∧ Gives w w' e (acc s b i.1 ys.length i.2) [rowF (pt i.1 ys.length) (cellsL ys)] := by
  subst e
  exact put s b l a n c t w hs hn hrow hl
theorem dropL (s b : Int) (l ys : List Tx) (a : Option Addr) (n c : Nat) (v : Int) (w : World) (hs : Sl a n c) (hn : n = l.length) (hl : l.length ≤ 100000) (e : dropV v l = ys) (hrow : At w (pt a n) (cellsL l)) : Calls Tryd.prog 35 (List.toArray [acc s b a n c, .int .i64 v]) w fun e w' =>  ∃ i : One, Sl i.1 ys.length i.2 ∧ Gives w w' e (acc s b i.1 ys.length i.2) [rowF (pt i.1 ys.length) (cellsL ys)] := by
  subst e
  exact drop s b l a n c v w hs hn hrow (by omega)
theorem readyL (s b : Int) (l ys : List Tx) (a : Option Addr) (n c : Nat) (w : World) (hs : Sl a n c) (hn : n = l.length) (hl : l.length ≤ 100000) (e : readyV b l = ys) (hrow : At w (pt a n) (cellsL l)) : Calls Tryd.prog 23 (List.toArray [acc s b a n c]) w fun e w' =>  ∃ i : One, Sl i.1 ys.length i.2 ∧ Gives w w' e (.slice i.1 ys.length i.2) [rowF (pt i.1 ys.length) (cellsL ys)] := by
  subst e
  exact ready s b l a n c w hs hn hrow (by omega)
theorem advL (s b y : Int) (l ys zs : List Tx) (a : Option Addr) (n c : Nat) (w : World) (hs : Sl a n c) (hn : n = l.length) (hl : l.length ≤ 100000) (he : advV b y = 0) (e : above y l = ys) (e2 : below y l = zs) (hrow : At w (pt a n) (cellsL l)) : Calls Tryd.prog 30 (List.toArray [acc s b a n c, .int .i64 y]) w fun e w' =>  ∃ i : Two, (Sl i.1.1 ys.length i.1.2 ∧ Sl i.2.1 zs.length i.2.2) ∧ Gives w w' e (.tuple #[acc s y i.1.1 ys.length i.1.2, .slice i.2.1 zs.length i.2.2, .int .i64 0]) [rowF (pt i.1.1 ys.length) (cellsL ys), rowF (pt i.2.1 zs.length) (cellsL zs)] := by
  subst e e2
  exact advance_ok s b l a n c y w hs hn hrow (by omega) he
theorem advN (s b y v : Int) (l : List Tx) (a : Option Addr) (n c : Nat) (w : World) (hs : Sl a n c) (hn : n = l.length) (hl : l.length ≤ 100000) (he : advV b y = v) (hv : v ≠ 0) (hrow : At w (pt a n) (cellsL l)) : Calls Tryd.prog 30 (List.toArray [acc s b a n c, .int .i64 y]) w fun e w' =>  ∃ i : One, Sl i.1 n i.2 ∧ Gives w w' e (.tuple #[acc s b i.1 n i.2, .slice none 0 0, .int .i64 v]) [rowF (pt i.1 n) (cellsL l)] := by
  subst he
  exact advance_no s b l a n c y w hs hn hrow (by omega) hv
theorem slotsE (s b v : Int) (l : List Tx) (a : Option Addr) (n c : Nat) (w : World) (hM : Most w) (hs : Sl a n c) (hn : n = l.length) (hd : ∀ x ∈ l, x.d.size ≤ maxLen) (hfew : n ≤ 140737488355328) (e : slotsL l = v) (hrow : At w (pt a n) (cellsL l)) : Calls Tryd.prog 25 (List.toArray [acc s b a n c]) w fun e w' =>  e = .returned (.int .i64 v) ∧ Below w.heap.size w w' := by
  subst e
  exact slots_ s b l a n c w hM hs hn hrow hd hfew
theorem checkE (s b per : Int) (v : Bool) (l : List Tx) (a : Option Addr) (n c : Nat) (w : World) (hM : Most w) (hs : Sl a n c) (hn : n = l.length) (e : checkV s b per l = v) (hrow : At w (pt a n) (cellsL l)) : Calls Tryd.prog 20 (List.toArray [acc s b a n c, .int .i64 per]) w fun e w' =>  e = .returned (.bool v) ∧ Below w.heap.size w w' := by
  subst e
  exact check_ s b per l a n c w hM hs hn hrow
theorem eq_same' (x y : Operand) (t : Tx) (w : World) : (do eqGuard .eql 28 x y t.val t.val; pure (Next.value (← binOp .eql 28 t.val t.val)) : Sem Next).run Tryd.prog w = .ok (.value (.bool true)) w := by
  simp [Tx.val, eqGuard, go_sem]
end Go.Proofs.YtjejjgoagjkfdaaDoor.queue
