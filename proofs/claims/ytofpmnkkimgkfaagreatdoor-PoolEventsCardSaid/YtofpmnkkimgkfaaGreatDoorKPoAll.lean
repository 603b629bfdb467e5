/- Layer 13 (pool): what callees lay; Clone of accounts, within, the two Config. -/
import Derived.Test.YtofpmnkkimgkfaaGreatDoorKShAll
import Derived.Test.YtofpmnkkimgkfaaGreatDoorKQueTop
import Derived.Test.YtofpmnkkimgkfaaGreatDoorKTxnTop
import Derived.Test.YtofpmnkkimgkfaaGreatDoorKTxnREnc
import Derived.Test.YtofpmnkkimgkfaaGreatDoorKQueueOpen
set_option linter.all false
set_option maxHeartbeats 4000000
set_option maxRecDepth 100000
namespace Go.Proofs.YtofpmnkkimgkfaaGreatDoor.pool
open Go.RowKit Sx txn queue greedy shard
section
variable {P : Program} {W : World} {G : Option Nat} {Q : Ending → World → Prop} {ds : List Deferred}
def Lay (w w' : World) (old : List Fact) (e : Ending) (v : Value) (fs : List Fact) : Prop := e = .returned v ∧ Below w.heap.size w w' ∧ ∀ φ ∈ fs, ∀ g, φ.g = some g → (w.heap.size ≤ g ∨ ∃ ψ ∈ old, ψ.g = some g) ∧ ∃ o, w'.heap[g]? = some o ∧ φ.holds o
theorem Lay.more {w w' : World} {old old' : List Fact} {e v fs} (h : Lay w w' old e v fs) (k : ∀ ψ ∈ old, ∀ g, ψ.g = some g → ∃ ψ' ∈ old', ψ'.g = some g) : Lay w w' old' e v fs := ⟨h.1, h.2.1, fun φ hφ g hg => ⟨(h.2.2 φ hφ g hg).1.elim .inl fun ⟨ψ, h1, h2⟩ => .inr (k ψ h1 g h2), (h.2.2 φ hφ g hg).2⟩⟩
def New (W : World) (old : List Fact) (φ : Fact) : Prop := ∀ g, φ.g = some g → W.heap.size ≤ g ∨ ∃ ψ ∈ old, ψ.g = some g
theorem meetLy {ι : Type} {ok : ι → Prop} {v : ι → Value} {fs : ι → List Fact} {f : FuncId} {args : List Sx.T} {l : List Value} {m : M} {k : Value → List Fact → Tree} (old : List Fact) (hold : ∀ ψ ∈ old, ψ ∈ m.facts) (hv : valsOf args = some l) (hc : callable P f = true)
  (hC : ∀ β ρ w, Mem W G m β ρ w → Calls P f (List.toArray l) w fun e w' => ∃ i, ok i ∧ Lay w w' old e (v i) (fs i)) (h : ∀ i, ok i → (∀ φ ∈ fs i, New W old φ) → (k (v i) (fs i)).wpD P W G Q ds) : (Tree.call f args m k).wpD P W G Q ds :=
 ⟨hc, fun β ρ w vs hm hr => by
  rw [valsOf_spec _ _ _ hv hr]
  refine (hC β ρ w hm).mono fun e w' ⟨i, hi, he, hb, hg⟩ => ⟨v i, fs i, he, hb, fun φ hφ g hφg => ?_, h i hi fun φ hφ g hg' => (hg φ hφ g hg').1.elim (fun h => .inl (Nat.le_trans hm.grown.size h)) .inr⟩
  obtain ⟨h1, h2⟩ := hg φ hφ g hφg
  exact ⟨h1.elim (fun h => .inr (.inl h)) (fun ⟨ψ, h3, h4⟩ => .inr (.inr ⟨ψ, hold ψ h3, h4⟩)), h2⟩⟩
end
theorem cloneA (L : List Ac) (a : Option Addr) (n c : Nat) (w : World) (hs : Sl a n c) (hn : n = L.length) (hrow : At w (pt a n) (cellsA L)) (hl : L.length ≤ 1000000) :
  Calls Tryz.prog 153 (List.toArray [.slice a n c]) w fun e w' => ∃ v, e = .returned v ∧ Below w.heap.size w w' ∧ w'.ownsRow w.heap.size 65 3 v n (cellsA L) := by
 refine calls_of_row (Env.Ok.howD Sxs.env_ok [(153, .fresh 65 3)]) Tryz.func153 rfl [] (by kernel_rfl) (n := 2) rfl [.v (.slice a n c)] ⟨[], [], [rowF (pt a n) (cellsA L)]⟩ [] (mem_plain _ (at1 hrow)) (Rels.vals [.slice a n c]) ?_
 refine wp_prim (.bool a.isNone) (fun w => by simp [eqGuard, Lib.run_eql_slice_nil w _ _ a n c 0 0 Tryz.underlying24]) ?_
 refine wp_br (fun h1 => ?_) (fun h1 => ?_)
 ·cases a with
  | some _ => cases h1
  | none =>
   have h0 := (hs.2.2 rfl).1
   exact wp_back fun β ρ w' hM' => ⟨_, rfl, hM'.below, by
    have hl0 : L = [] := List.eq_nil_of_length_eq_zero (by omega)
    subst hl0
    exact ⟨by simp [cellsA, h0], .inl ⟨rfl, h0⟩⟩⟩
 ·refine ⟨cellsA L, by rw [cellsA_length, hn], cellsA_one L, fun β ρ w' hM' ad had j u hu => ?_, ?_⟩
  ·subst had
   have h1 := hM'.at_ List.mem_cons_self
   rw [pt_pos (k := 0) (by have := cellsA_pos hu; omega)] at h1
   exact h1.cell hu
  ·refine wp_must ⟨by show 0 + n ≤ maxLen; unfold maxLen; omega, by show (0 + n) * 40 ≤ 140737488355328; omega, fun ha => hs.2.2 ha⟩ ?_
   refine wp_end (fun β ρ w' v hM' hv => ⟨v, rfl, hM'.below, ?_⟩)
   have := hM'.mine (i := 0) (r := ⟨65, 3, 0 + n, [] ++ cellsA L⟩) rfl hv
   simpa using this
structure Cf where
 sh : Int
 so : Int
 hd : Int
 per : Int
 bp : Int
 fd : Int
 wk : Int
 rm : Int
def Cf.val (C : Cf) : Value := .agg #[.int .i64 C.sh, .int .i64 C.so, .int .i64 C.hd, .int .i64 C.per, .int .i64 C.bp, .int .i64 C.fd, .int .i64 C.wk, .int .i64 C.rm]
def cfgB (C : Cf) : Bool := decide (1 ≤ C.sh ∧ C.sh ≤ 8 ∧ 1 ≤ C.hd ∧ C.hd ≤ 1000 ∧ 0 ≤ C.so ∧ C.so ≤ C.hd ∧ 1 ≤ C.per ∧ C.per ≤ 16 ∧ 0 ≤ C.bp ∧ C.bp ≤ 100 ∧ 1 ≤ C.fd ∧ C.fd ≤ 16 ∧ 1 ≤ C.wk ∧ C.wk ≤ 4 ∧ 1 ≤ C.rm ∧ C.rm ≤ 8)
theorem inB_iff {n l m : Int} : inB n l m = true ↔ l ≤ n ∧ n ≤ m := by unfold inB; rw [Bool.and_eq_true, decide_eq_true_eq, decide_eq_true_eq]
theorem inB_no {n l m : Int} (h : inB n l m = false) : ¬ (l ≤ n ∧ n ≤ m) := fun k => by rw [inB_iff.2 k] at h; cases h
theorem within (n l m : Int) (w : World) : Calls Tryz.prog 67 (List.toArray [.int .i64 n, .int .i64 l, .int .i64 m]) w fun e w' => e = .returned (.bool (inB n l m)) ∧ Below w.heap.size w w' := by
 refine calls_of_exec Sxs.env_ok.keeps Tryz.func67 rfl [] (schedQ_ok _ _ (by kernel_rfl)) [] (by simp) ?_
 conv=>arg 5;whnf
 refine wp_g1 (fun h1 => ?_) (fun h1 => ?_)
 ·have e : inB n l m = decide (n ≤ m) := by unfold inB; rw [h1, Bool.true_and]
  rw [e]
  conv=>arg 5;whnf
  exact wp_back fun β ρ w' hM' => ⟨rfl, hM'.below⟩
 ·have e : inB n l m = false := by unfold inB; rw [h1, Bool.false_and]
  rw [e]
  conv=>arg 5;whnf
  exact wp_back fun β ρ w' hM' => ⟨rfl, hM'.below⟩
theorem config (C : Cf) (w : World) : Calls Tryz.prog 21 (List.toArray [C.val]) w fun e w' => e = .returned (.bool (cfgB C)) ∧ Below w.heap.size w w' := by
 refine calls_of_exec Sxs.env_ok.keeps Tryz.func21 rfl [] (schedQ_ok _ _ (by kernel_rfl)) [] (by simp) ?_
 have W0 := within C.sh 1 8
 have W1 := within C.hd 1 1000
 have W2 := within C.so 0 C.hd
 have W3 := within C.per 1 16
 have W4 := within C.bp 0 100
 have W5 := within C.fd 1 16
 have W6 := within C.wk 1 4
 have W7 := within C.rm 1 8
 conv=>arg 5;whnf
 refine meetc (f := 67) (v := .bool (inB C.sh 1 8)) rfl (by kernel_rfl) (fun β ρ w' hM' => W0 w') ?_
 cases h0 : inB C.sh 1 8 with
 | false =>
  have e : cfgB C = false := decide_eq_false fun k => inB_no h0 (by omega)
  rw [e]
  conv=>arg 5;whnf
  exact wp_back fun β ρ w' hM' => ⟨rfl, hM'.below⟩
 | true =>
  conv=>arg 5;whnf
  refine meetc (f := 67) (v := .bool (inB C.hd 1 1000)) rfl (by kernel_rfl) (fun β ρ w' hM' => W1 w') ?_
  cases h1 : inB C.hd 1 1000 with
  | false =>
   have e : cfgB C = false := decide_eq_false fun k => inB_no h1 (by omega)
   rw [e]
   conv=>arg 5;whnf
   exact wp_back fun β ρ w' hM' => ⟨rfl, hM'.below⟩
  | true =>
   conv=>arg 5;whnf
   refine meetc (f := 67) (v := .bool (inB C.so 0 C.hd)) rfl (by kernel_rfl) (fun β ρ w' hM' => W2 w') ?_
   cases h2 : inB C.so 0 C.hd with
   | false =>
    have e : cfgB C = false := decide_eq_false fun k => inB_no h2 (by omega)
    rw [e]
    conv=>arg 5;whnf
    exact wp_back fun β ρ w' hM' => ⟨rfl, hM'.below⟩
   | true =>
    conv=>arg 5;whnf
    refine meetc (f := 67) (v := .bool (inB C.per 1 16)) rfl (by kernel_rfl) (fun β ρ w' hM' => W3 w') ?_
    cases h3 : inB C.per 1 16 with
    | false =>
     have e : cfgB C = false := decide_eq_false fun k => inB_no h3 (by omega)
     rw [e]
     conv=>arg 5;whnf
     exact wp_back fun β ρ w' hM' => ⟨rfl, hM'.below⟩
    | true =>
     conv=>arg 5;whnf
     refine meetc (f := 67) (v := .bool (inB C.bp 0 100)) rfl (by kernel_rfl) (fun β ρ w' hM' => W4 w') ?_
     cases h4 : inB C.bp 0 100 with
     | false =>
      have e : cfgB C = false := decide_eq_false fun k => inB_no h4 (by omega)
      rw [e]
      conv=>arg 5;whnf
      exact wp_back fun β ρ w' hM' => ⟨rfl, hM'.below⟩
     | true =>
      conv=>arg 5;whnf
      refine meetc (f := 67) (v := .bool (inB C.fd 1 16)) rfl (by kernel_rfl) (fun β ρ w' hM' => W5 w') ?_
      cases h5 : inB C.fd 1 16 with
      | false =>
       have e : cfgB C = false := decide_eq_false fun k => inB_no h5 (by omega)
       rw [e]
       conv=>arg 5;whnf
       exact wp_back fun β ρ w' hM' => ⟨rfl, hM'.below⟩
      | true =>
       conv=>arg 5;whnf
       refine meetc (f := 67) (v := .bool (inB C.wk 1 4)) rfl (by kernel_rfl) (fun β ρ w' hM' => W6 w') ?_
       cases h6 : inB C.wk 1 4 with
       | false =>
        have e : cfgB C = false := decide_eq_false fun k => inB_no h6 (by omega)
        rw [e]
        conv=>arg 5;whnf
        exact wp_back fun β ρ w' hM' => ⟨rfl, hM'.below⟩
       | true =>
        conv=>arg 5;whnf
        refine meetc (f := 67) (v := .bool (inB C.rm 1 8)) rfl (by kernel_rfl) (fun β ρ w' hM' => W7 w') ?_
        cases h7 : inB C.rm 1 8 with
        | false =>
         have e : cfgB C = false := decide_eq_false fun k => inB_no h7 (by omega)
         rw [e]
         conv=>arg 5;whnf
         exact wp_back fun β ρ w' hM' => ⟨rfl, hM'.below⟩
        | true =>
         have e : cfgB C = true := decide_eq_true (by have := inB_iff.1 h0; have := inB_iff.1 h1; have := inB_iff.1 h2; have := inB_iff.1 h3; have := inB_iff.1 h4; have := inB_iff.1 h5; have := inB_iff.1 h6; have := inB_iff.1 h7; omega)
         rw [e]
         conv=>arg 5;whnf
         exact wp_back fun β ρ w' hM' => ⟨rfl, hM'.below⟩
theorem rconfig (C : Cf) (w : World) : Calls Tryz.prog 22 (List.toArray [C.val]) w fun e w' => e = .returned (.bool (cfgB C)) ∧ Below w.heap.size w w' := by
 refine calls_of_exec Sxs.env_ok.keeps Tryz.func22 rfl [] (schedQ_ok _ _ (by kernel_rfl)) [] (by simp) ?_
 conv=>arg 5;whnf
 refine wp_g0 (fun h0 => ?_) (fun h0 => ?_)
 rotate_left
 ·have e : cfgB C = false := decide_eq_false fun k => by have : C.sh < 1 := of_decide_eq_true h0; omega
  rw [e]
  conv=>arg 5;whnf
  exact wp_back fun β ρ w' hM' => ⟨rfl, hM'.below⟩
 have h0 : ¬ C.sh < 1 := of_decide_eq_false h0
 conv=>arg 5;whnf
 refine wp_g0 (fun h1 => ?_) (fun h1 => ?_)
 rotate_left
 ·have e : cfgB C = false := decide_eq_false fun k => by have : 8 < C.sh := of_decide_eq_true h1; omega
  rw [e]
  conv=>arg 5;whnf
  exact wp_back fun β ρ w' hM' => ⟨rfl, hM'.below⟩
 have h1 : ¬ 8 < C.sh := of_decide_eq_false h1
 conv=>arg 5;whnf
 refine wp_g0 (fun h2 => ?_) (fun h2 => ?_)
 rotate_left
 ·have e : cfgB C = false := decide_eq_false fun k => by have : C.so < 0 := of_decide_eq_true h2; omega
  rw [e]
  conv=>arg 5;whnf
  exact wp_back fun β ρ w' hM' => ⟨rfl, hM'.below⟩
 have h2 : ¬ C.so < 0 := of_decide_eq_false h2
 conv=>arg 5;whnf
 refine wp_g0 (fun h3 => ?_) (fun h3 => ?_)
 rotate_left
 ·have e : cfgB C = false := decide_eq_false fun k => by have : C.hd < C.so := of_decide_eq_true h3; omega
  rw [e]
  conv=>arg 5;whnf
  exact wp_back fun β ρ w' hM' => ⟨rfl, hM'.below⟩
 have h3 : ¬ C.hd < C.so := of_decide_eq_false h3
 conv=>arg 5;whnf
 refine wp_g0 (fun h4 => ?_) (fun h4 => ?_)
 rotate_left
 ·have e : cfgB C = false := decide_eq_false fun k => by have : C.hd < 1 := of_decide_eq_true h4; omega
  rw [e]
  conv=>arg 5;whnf
  exact wp_back fun β ρ w' hM' => ⟨rfl, hM'.below⟩
 have h4 : ¬ C.hd < 1 := of_decide_eq_false h4
 conv=>arg 5;whnf
 refine wp_g0 (fun h5 => ?_) (fun h5 => ?_)
 rotate_left
 ·have e : cfgB C = false := decide_eq_false fun k => by have : 1000 < C.hd := of_decide_eq_true h5; omega
  rw [e]
  conv=>arg 5;whnf
  exact wp_back fun β ρ w' hM' => ⟨rfl, hM'.below⟩
 have h5 : ¬ 1000 < C.hd := of_decide_eq_false h5
 conv=>arg 5;whnf
 refine wp_g0 (fun h6 => ?_) (fun h6 => ?_)
 rotate_left
 ·have e : cfgB C = false := decide_eq_false fun k => by have : C.per < 1 := of_decide_eq_true h6; omega
  rw [e]
  conv=>arg 5;whnf
  exact wp_back fun β ρ w' hM' => ⟨rfl, hM'.below⟩
 have h6 : ¬ C.per < 1 := of_decide_eq_false h6
 conv=>arg 5;whnf
 refine wp_br (fun h7 => ?_) (fun h7 => ?_)
 ·have e : cfgB C = false := decide_eq_false fun k => by have : 16 < C.per := of_decide_eq_true h7; omega
  rw [e]
  conv=>arg 5;whnf
  exact wp_back fun β ρ w' hM' => ⟨rfl, hM'.below⟩
 have h7 : ¬ 16 < C.per := of_decide_eq_false h7
 conv=>arg 5;whnf
 refine wp_g1 (fun g0 => ?_) (fun g0 => ?_)
 rotate_left
 ·have e : cfgB C = false := decide_eq_false fun k => by have : ¬ C.bp ≥ 0 := of_decide_eq_false g0; omega
  rw [e]
  conv=>arg 5;whnf
  exact wp_back fun β ρ w' hM' => ⟨rfl, hM'.below⟩
 have g0 : C.bp ≥ 0 := of_decide_eq_true g0
 conv=>arg 5;whnf
 refine wp_g1 (fun g1 => ?_) (fun g1 => ?_)
 rotate_left
 ·have e : cfgB C = false := decide_eq_false fun k => by have : ¬ C.bp ≤ 100 := of_decide_eq_false g1; omega
  rw [e]
  conv=>arg 5;whnf
  exact wp_back fun β ρ w' hM' => ⟨rfl, hM'.below⟩
 have g1 : C.bp ≤ 100 := of_decide_eq_true g1
 conv=>arg 5;whnf
 refine wp_g1 (fun g2 => ?_) (fun g2 => ?_)
 rotate_left
 ·have e : cfgB C = false := decide_eq_false fun k => by have : ¬ C.fd ≥ 1 := of_decide_eq_false g2; omega
  rw [e]
  conv=>arg 5;whnf
  exact wp_back fun β ρ w' hM' => ⟨rfl, hM'.below⟩
 have g2 : C.fd ≥ 1 := of_decide_eq_true g2
 conv=>arg 5;whnf
 refine wp_g1 (fun g3 => ?_) (fun g3 => ?_)
 rotate_left
 ·have e : cfgB C = false := decide_eq_false fun k => by have : ¬ C.fd ≤ 16 := of_decide_eq_false g3; omega
  rw [e]
  conv=>arg 5;whnf
  exact wp_back fun β ρ w' hM' => ⟨rfl, hM'.below⟩
 have g3 : C.fd ≤ 16 := of_decide_eq_true g3
 conv=>arg 5;whnf
 refine wp_g1 (fun g4 => ?_) (fun g4 => ?_)
 rotate_left
 ·have e : cfgB C = false := decide_eq_false fun k => by have : ¬ C.wk ≥ 1 := of_decide_eq_false g4; omega
  rw [e]
  conv=>arg 5;whnf
  exact wp_back fun β ρ w' hM' => ⟨rfl, hM'.below⟩
 have g4 : C.wk ≥ 1 := of_decide_eq_true g4
 conv=>arg 5;whnf
 refine wp_g1 (fun g5 => ?_) (fun g5 => ?_)
 rotate_left
 ·have e : cfgB C = false := decide_eq_false fun k => by have : ¬ C.wk ≤ 4 := of_decide_eq_false g5; omega
  rw [e]
  conv=>arg 5;whnf
  exact wp_back fun β ρ w' hM' => ⟨rfl, hM'.below⟩
 have g5 : C.wk ≤ 4 := of_decide_eq_true g5
 conv=>arg 5;whnf
 refine wp_g1 (fun g6 => ?_) (fun g6 => ?_)
 rotate_left
 ·have e : cfgB C = false := decide_eq_false fun k => by have : ¬ C.rm ≥ 1 := of_decide_eq_false g6; omega
  rw [e]
  conv=>arg 5;whnf
  exact wp_back fun β ρ w' hM' => ⟨rfl, hM'.below⟩
 have g6 : C.rm ≥ 1 := of_decide_eq_true g6
 have e : cfgB C = decide (C.rm ≤ 8) := by unfold cfgB; rw [Bool.eq_iff_iff, decide_eq_true_eq, decide_eq_true_eq]; omega
 rw [e]
 conv=>arg 5;whnf
 exact wp_back fun β ρ w' hM' => ⟨rfl, hM'.below⟩
end Go.Proofs.YtofpmnkkimgkfaaGreatDoor.pool
namespace Go.Proofs.YtofpmnkkimgkfaaGreatDoor.pool
open Go.RowKit Sx txn queue greedy shard
def slotsP (P : List PA) : Int := (P.map fun x => slotsL x.2.2).sum
theorem slotsA_P (L : List Ac) : slotsA L = slotsP (L.map acP) := by unfold slotsA slotsP; rw [List.map_map]; rfl
theorem rslots11 (v : Int) (L : List Ac) (a : Option Addr) (n c : Nat) (w : World) (hA : Acs w a n c L) (h1000 : n ≤ 1000000) :
  Calls Tryz.prog 71 (List.toArray [shV a n c v]) w fun e w' => e = .returned (.int .i64 (slotsA L)) ∧ Below w.heap.size w w' := by
 have hs := hA.1
 have hn := hA.2.1
 have hn63 := hs.le
 refine calls_of_exec Sxs.env_ok.keeps Tryz.func71 rfl [] (schedQ_ok _ _ (by kernel_rfl)) (acsF a n L) hA.facts ?_
 conv=>arg 5;whnf
 refine loop_ruleE Sxs.env_ok.keeps [] (schedQ_ok _ _ (by kernel_rfl)) [1] (fun k : Nat => k ≤ n ∧ 0 ≤ slotsA (L.take k) ∧ slotsA (L.take k) ≤ 13000000 * k) (fun k => (⟨[some ([.v (.slice a n c), .v (.int .i64 v)], 63)], [], acsF a n L⟩, [.any, .p 0 0, .any, .v (.int .i64 (slotsA (L.take k))), .v (.int .i64 k), .any, .any, .any, .any, .any, .any, .any, .any, .any, .any, .any, .any, .any, .any, .any, .any])) (fun k => n - k) 0 ⟨Nat.zero_le _, by unfold slotsA; simp, by unfold slotsA; simp⟩ ⟨by repeat' first | exact trivial | refine ⟨.inl rfl, ?_⟩ | refine ⟨.inr rfl, ?_⟩, ⟨by repeat' first | exact trivial | refine ⟨.inl rfl, ?_⟩ | refine ⟨.inr rfl, ?_⟩, by repeat' first | exact trivial | refine ⟨.inl rfl, ?_⟩ | refine ⟨.inr rfl, ?_⟩, fun _ h => h⟩, rfl⟩ ?_
 rintro k ⟨hk, hk0, hk1⟩
 conv=>arg 5;whnf
 refine wp_br (fun h1 => ?_) (fun h1 => ?_)
 ·have hlt : k < n := by have h3 := of_decide_eq_true (show decide ((k : Int) < (n : Int)) = true from h1); omega
  obtain ⟨x, hx1⟩ : ∃ x, L[k]? = some x := ⟨_, List.getElem?_eq_getElem (by omega)⟩
  have hxm : x ∈ L := List.mem_of_getElem? hx1
  obtain ⟨⟨xs, xn, xl, xd⟩, _⟩ := hA.2.2.2 x hxm
  have hst := slotsA_take hx1
  have hb := slotsL_bd x.l
  have SL := fun w hr => rslots_ x.s x.b x.l x.a x.n x.c w xs xn hr xd (by omega)
  generalize slotsL x.l = sl at *
  conv=>arg 5;whnf
  refine wp_must ⟨by omega, by show (k : Int) < (n : Int); omega, hs.some hlt⟩ ?_
  conv=>arg 5;whnf
  refine readG Sxs.env_ok (vs := x.cs) (sz := 3) (k := k) rfl rfl (.head _) hlt (hs.some hlt) (cellsA_at hx1) rfl ?_
  conv=>arg 5;whnf
  refine meetc (f := 123) (v := .int .i64 sl) rfl (by kernel_rfl) (fun β ρ w' hM' => SL w' (hM'.at_ (.tail _ (List.mem_map.2 ⟨x, hxm, rfl⟩)))) ?_
  conv=>arg 5;whnf
  refine wp_must ⟨by omega, by omega⟩ ?_
  conv=>arg 5;whnf
  refine wp_must ⟨by show -9223372036854775808 ≤ (k : Int) + 1; omega, by show (k : Int) + 1 ≤ 9223372036854775807; omega⟩ ?_
  conv=>arg 5;whnf
  rw [← hst]
  refine wp_end ⟨k + 1, ⟨hlt, by omega, by push_cast; omega⟩, ⟨by repeat' first | exact trivial | refine ⟨.inl rfl, ?_⟩ | refine ⟨.inr rfl, ?_⟩, ⟨by repeat' first | exact trivial | refine ⟨.inl rfl, ?_⟩ | refine ⟨.inr rfl, ?_⟩, by repeat' first | exact trivial | refine ⟨.inl rfl, ?_⟩ | refine ⟨.inr rfl, ?_⟩, fun _ h => h⟩, rfl⟩, by show n - (k + 1) < n - k; omega⟩
 ·have hkn : k = n := by have h3 := of_decide_eq_false (show decide ((k : Int) < (n : Int)) = false from h1); omega
  have e : L.take k = L := List.take_of_length_le (by omega)
  rw [e]
  conv=>arg 5;whnf
  exact wp_back fun β ρ w' hM' => ⟨rfl, hM'.below⟩
theorem pslots (L : List Ac) (a : Option Addr) (n c : Nat) (w : World) (hM : Most w) (hA : Acs w a n c L) (h1000 : n ≤ 1000000) :
  Calls Tryz.prog 25 (List.toArray [.slice a n c]) w fun e w' => e = .returned (.int .i64 (slotsA L)) ∧ Below w.heap.size w w' := by
 have SL := fun w hM hA => slots 0 L a n c w hM hA h1000
 refine calls_of_exec Sxs.env_ok.keeps Tryz.func25 rfl [] (schedQ_ok _ _ (by kernel_rfl)) (acsF a n L) hA.facts ?_
 conv=>arg 5;whnf
 refine meetc (f := 70) (v := .int .i64 (slotsA L)) rfl (by kernel_rfl) (fun β ρ w' hM' => SL w' (hM.later hM'.below) (Mem.acs hA hM' fun φ hφ => hφ)) ?_
 conv=>arg 5;whnf
 exact wp_back fun β ρ w' hM' => ⟨rfl, hM'.below⟩
theorem rslots (L : List Ac) (a : Option Addr) (n c : Nat) (w : World) (hA : Acs w a n c L) (h1000 : n ≤ 1000000) :
  Calls Tryz.prog 26 (List.toArray [.slice a n c]) w fun e w' => e = .returned (.int .i64 (slotsA L)) ∧ Below w.heap.size w w' := by
 have SL := fun w hA => rslots11 0 L a n c w hA h1000
 refine calls_of_exec Sxs.env_ok.keeps Tryz.func26 rfl [] (schedQ_ok _ _ (by kernel_rfl)) (acsF a n L) hA.facts ?_
 conv=>arg 5;whnf
 refine meetc (f := 71) (v := .int .i64 (slotsA L)) rfl (by kernel_rfl) (fun β ρ w' hM' => SL w' (Mem.acs hA hM' fun φ hφ => hφ)) ?_
 conv=>arg 5;whnf
 exact wp_back fun β ρ w' hM' => ⟨rfl, hM'.below⟩
def pckB (C : Cf) (P : List PA) : Bool := cfgB C && shCheck 0 P 0 1 C.per && decide (slotsP P ≤ C.hd)
theorem pcheck (C : Cf) (L : List Ac) (a : Option Addr) (n c : Nat) (w : World) (hM : Most w) (hA : Acs w a n c L) (h1000 : n ≤ 1000000) :
  Calls Tryz.prog 23 (List.toArray [C.val, .slice a n c]) w fun e w' => e = .returned (.bool (pckB C (L.map acP))) ∧ Below w.heap.size w w' := by
 have CF := fun w => config C w
 have CK := fun w hM hA => check 0 L a n c 0 1 0 0 C.per 0 0 0 0 w hM hA h1000
 have SL := fun w hM hA => pslots L a n c w hM hA h1000
 have e0 : pckB C (L.map acP) = (cfgB C && shCheck 0 (L.map acP) 0 1 C.per && decide (slotsA L ≤ C.hd)) := by rw [slotsA_P]; rfl
 rw [e0]
 refine calls_of_exec Sxs.env_ok.keeps Tryz.func23 rfl [(4, (line [0, 1, 2, 3, 4, 5, 7, 8, 6, 9, 10, 11], []))] (schedQ_ok _ _ (by kernel_rfl)) (acsF a n L) hA.facts ?_
 generalize cfgB C = cf at *
 generalize shCheck 0 (L.map acP) 0 1 C.per = ck at *
 conv=>arg 5;whnf
 refine meetc (f := 21) (v := .bool cf) rfl (by kernel_rfl) (fun β ρ w' hM' => CF w') ?_
 cases cf with
 | false =>
  conv=>arg 5;whnf
  exact wp_back fun β ρ w' hM' => ⟨rfl, hM'.below⟩
 | true =>
  conv=>arg 5;whnf
  refine meetc (f := 68) (v := .bool ck) rfl (by kernel_rfl) (fun β ρ w' hM' => CK w' (hM.later hM'.below) (Mem.acs hA hM' fun φ hφ => hφ)) ?_
  cases ck with
  | false =>
   conv=>arg 5;whnf
   exact wp_back fun β ρ w' hM' => ⟨rfl, hM'.below⟩
  | true =>
   conv=>arg 5;whnf
   refine meetc (f := 25) (v := .int .i64 (slotsA L)) rfl (by kernel_rfl) (fun β ρ w' hM' => SL w' (hM.later hM'.below) (Mem.acs hA hM' fun φ hφ => hφ)) ?_
   conv=>arg 5;whnf
   exact wp_back fun β ρ w' hM' => ⟨rfl, hM'.below⟩
theorem checkV_base {s b per : Int} {l : List Tx} (h : checkV s b per l = true) : 0 ≤ s ∧ s ≤ 255 ∧ 0 ≤ b ∧ b ≤ 4294967295 ∧ (l.length : Int) ≤ per := by
 unfold checkV at h
 simp only [Bool.and_eq_true, inB_iff, decide_eq_true_eq] at h
 omega
theorem ck_one (s b per : Int) (l : List Tx) (e : Bool) : (checkV s b per l && e && (fnv.shardV s 1 == 0)) = (checkV s b per l && e) := by
 cases h : checkV s b per l with
 | false => rfl
 | true =>
  have hb := checkV_base h
  have : fnv.shardV s 1 = 0 := by unfold fnv.shardV; rw [if_pos ⟨by omega, by omega, by decide, by decide⟩]; exact Int.emod_one _
  rw [this]; simp
theorem okI_zero1 {P : List PA} {per : Int} {x : PA} (h : P[0]? = some x) : okI P 0 1 per 0 = (checkV x.1 x.2.1 per x.2.2 && !emptyV x.2.1 x.2.2.length) := by rw [okI_zero h, ck_one]
theorem okI_succ1 {P : List PA} {per : Int} {j : Nat} {x y : PA} (h : P[j + 1]? = some x) (hy : P[j]? = some y) : okI P 0 1 per (j + 1) = (decide (y.1 < x.1) && checkV x.1 x.2.1 per x.2.2 && !emptyV x.2.1 x.2.2.length) := by
 rw [okI_succ h hy]
 have := ck_one x.1 x.2.1 per x.2.2 (!emptyV x.2.1 x.2.2.length)
 cases decide (y.1 < x.1) with
 | false => simp
 | true => simp only [Bool.true_and]; exact this
theorem rcheck (C : Cf) (L : List Ac) (a : Option Addr) (n c : Nat) (w : World) (hM : Most w) (hA : Acs w a n c L) (h1000 : n ≤ 1000000) :
  Calls Tryz.prog 24 (List.toArray [C.val, .slice a n c]) w fun e w' => e = .returned (.bool (pckB C (L.map acP))) ∧ Below w.heap.size w w' := by
 have hs := hA.1
 have hn := hA.2.1
 have hn63 := hs.le
 have CF := fun w => rconfig C w
 have SL := fun w hA => rslots L a n c w hA h1000
 have e0 : pckB C (L.map acP) = (cfgB C && decide (slotsA L ≤ C.hd) && shOk (L.map acP) 0 1 C.per) := by rw [slotsA_P]; unfold pckB shCheck; simp only [Int.le_refl, decide_true, Bool.true_and, show (0 : Int) ≤ 1099511627776 from by decide, Bool.and_assoc]; rw [Bool.and_comm (shOk _ _ _ _)]
 rw [e0]
 refine calls_of_exec Sxs.env_ok.keeps Tryz.func24 rfl [(1, (line [0, 1, 2, 3, 4, 6, 7, 5, 8, 9], [])), (6, (line [0, 1, 2, 3, 4, 5, 6, 7, 8, 9, 10, 11, 12, 13, 14, 15, 16, 17, 18, 19, 20, 21, 22, 23, 24, 25, 26, 27, 28, 29, 30, 31, 32, 33, 34, 35, 36, 37, 38, 39, 40, 41, 42], []))] (schedQ_ok _ _ (by kernel_rfl)) (acsF a n L) hA.facts ?_
 generalize cfgB C = cf at *
 conv=>arg 5;whnf
 refine meetc (f := 22) (v := .bool cf) rfl (by kernel_rfl) (fun β ρ w' hM' => CF w') ?_
 cases cf with
 | false =>
  conv=>arg 5;whnf
  exact wp_back fun β ρ w' hM' => ⟨rfl, hM'.below⟩
 | true =>
  conv=>arg 5;whnf
  refine meetc (f := 26) (v := .int .i64 (slotsA L)) rfl (by kernel_rfl) (fun β ρ w' hM' => SL w' (Mem.acs hA hM' fun φ hφ => hφ)) ?_
  conv=>arg 5;whnf
  refine wp_br (fun h1 => ?_) (fun h1 => ?_)
  ·have h2 : C.hd < slotsA L := of_decide_eq_true h1
   rw [decide_eq_false (show ¬ slotsA L ≤ C.hd by omega)]
   conv=>arg 5;whnf
   exact wp_back fun β ρ w' hM' => ⟨rfl, hM'.below⟩
  have h2 : ¬ C.hd < slotsA L := of_decide_eq_false h1
  rw [decide_eq_true (show slotsA L ≤ C.hd by omega), Bool.true_and, Bool.true_and]
  clear h1
  have bad : shOk (L.map acP) 0 1 C.per = false → Ending.returned (tup [Value.bool false]) = .returned (.bool (shOk (L.map acP) 0 1 C.per)) := fun h => by rw [h]; rfl
  conv=>arg 5;whnf
  refine loop_ruleE Sxs.env_ok.keeps [(1, (line [0, 1, 2, 3, 4, 6, 7, 5, 8, 9], [])), (6, (line [0, 1, 2, 3, 4, 5, 6, 7, 8, 9, 10, 11, 12, 13, 14, 15, 16, 17, 18, 19, 20, 21, 22, 23, 24, 25, 26, 27, 28, 29, 30, 31, 32, 33, 34, 35, 36, 37, 38, 39, 40, 41, 42], []))] (schedQ_ok _ _ (by kernel_rfl)) [1] (fun k : Nat => k ≤ n ∧ (List.range k).all (okI (L.map acP) 0 1 C.per) = true) (fun k => (⟨[some ([.v (.int .i64 C.sh), .v (.int .i64 C.so), .v (.int .i64 C.hd), .v (.int .i64 C.per), .v (.int .i64 C.bp), .v (.int .i64 C.fd), .v (.int .i64 C.wk), .v (.int .i64 C.rm)], 23)], [], acsF a n L⟩, [.any, .v (.slice a n c), .p 0 0, .any, .any, .v (.int .i64 k), .any, .any, .any, .any, .any, .any, .any, .any, .any, .any, .any, .any, .any, .any, .any, .any, .any, .any, .any, .any, .any, .any, .any, .any, .any, .any, .any, .any, .any, .any, .any, .any, .any, .any, .any, .any, .any, .any, .any, .any, .any, .any, .any, .any, .any, .any, .any, .any, .any, .any, .any, .any, .any, .any, .any, .any, .any, .any, .any])) (fun k => n - k) 0 ⟨Nat.zero_le _, rfl⟩ ⟨by repeat' first | exact trivial | refine ⟨.inl rfl, ?_⟩ | refine ⟨.inr rfl, ?_⟩, ⟨by repeat' first | exact trivial | refine ⟨.inl rfl, ?_⟩ | refine ⟨.inr rfl, ?_⟩, by repeat' first | exact trivial | refine ⟨.inl rfl, ?_⟩ | refine ⟨.inr rfl, ?_⟩, fun _ h => h⟩, rfl⟩ ?_
  rintro k ⟨hk, hok⟩
  conv=>arg 5;whnf
  refine wp_br (fun h1 => ?_) (fun h1 => ?_)
  ·have hlt : k < n := by have h3 := of_decide_eq_true (show decide ((k : Int) < (n : Int)) = true from h1); omega
   obtain ⟨x, hx⟩ : ∃ x, L[k]? = some x := ⟨_, List.getElem?_eq_getElem (by omega)⟩
   have hxm : x ∈ L := List.mem_of_getElem? hx
   obtain ⟨⟨xs, xn, xl, xd⟩, _⟩ := hA.2.2.2 x hxm
   have hxP : (L.map acP)[k]? = some (acP x) := by rw [List.getElem?_map, hx]; rfl
   have CK := fun w hM hr => rcheck_ x.s x.b C.per x.l x.a x.n x.c w hM xs xn hr
   have hall : ∀ b, okI (L.map acP) 0 1 C.per k = b → (List.range (k + 1)).all (okI (L.map acP) 0 1 C.per) = b := fun b hb => by rw [List.range_succ, List.all_append, hok, Bool.true_and]; simp [hb]
   have hno : checkV x.s x.b C.per x.l = false → okI (L.map acP) 0 1 C.per k = false := fun h => by
    cases k with
    | zero => rw [okI_zero1 hxP]; show (checkV x.s x.b C.per x.l && _) = false; rw [h]; rfl
    | succ j =>
     obtain ⟨y, hy⟩ : ∃ y, L[j]? = some y := ⟨_, List.getElem?_eq_getElem (by omega)⟩
     rw [okI_succ1 hxP (show (L.map acP)[j]? = some (acP y) by rw [List.getElem?_map, hy]; rfl)]; show (_ && checkV x.s x.b C.per x.l && _) = false; rw [h]; simp
   have hno2 : emptyV x.b x.l.length = true → okI (L.map acP) 0 1 C.per k = false := fun h => by
    cases k with
    | zero => rw [okI_zero1 hxP]; show (_ && !emptyV x.b x.l.length) = false; rw [h]; simp
    | succ j =>
     obtain ⟨y, hy⟩ : ∃ y, L[j]? = some y := ⟨_, List.getElem?_eq_getElem (by omega)⟩
     rw [okI_succ1 hxP (show (L.map acP)[j]? = some (acP y) by rw [List.getElem?_map, hy]; rfl)]; show (_ && _ && !emptyV x.b x.l.length) = false; rw [h]; simp
   have hck := @checkV_base x.s x.b C.per x.l
   generalize hcv : checkV x.s x.b C.per x.l = ck at *
   conv=>arg 5;whnf
   refine wp_must ⟨by omega, by show (k : Int) < (n : Int); omega, hs.some hlt⟩ ?_
   conv=>arg 5;whnf
   refine readG Sxs.env_ok (vs := x.cs) (sz := 3) (k := k) rfl rfl (.head _) hlt (hs.some hlt) (cellsA_at hx) rfl ?_
   conv=>arg 5;whnf
   refine meetc (f := 69) (v := .bool ck) rfl (by kernel_rfl) (fun β ρ w' hM' => CK w' (hM.later hM'.below) (hM'.at_ (.tail _ (List.mem_map.2 ⟨x, hxm, rfl⟩)))) ?_
   cases ck with
   | false =>
    conv=>arg 5;whnf
    exact wp_back fun β ρ w' hM' => ⟨bad (shOk_false (i := k) (hno rfl)), hM'.below⟩
   | true =>
    have hck := hck rfl
    conv=>arg 5;whnf
    refine wp_must ⟨by omega, by show (k : Int) < (n : Int); omega, hs.some hlt⟩ ?_
    conv=>arg 5;whnf
    refine readF (sz := 3) (k := k) (f := 1) (.int .i64 x.b) rfl (.head _) hlt (hs.some hlt) (cellsA_at hx 1 _ rfl) rfl ?_
    conv=>arg 5;whnf
    refine wp_g1 (fun h3 => ?_) (fun h3 => ?_)
    ·have h4 : x.b = 0 := eq_of_beq h3
     conv=>arg 5;whnf
     refine wp_must ⟨by omega, by show (k : Int) < (n : Int); omega, hs.some hlt⟩ ?_
     conv=>arg 5;whnf
     refine readF (sz := 3) (k := k) (f := 2) (.slice x.a x.n x.c) rfl (.head _) hlt (hs.some hlt) (cellsA_at hx 2 _ rfl) rfl ?_
     by_cases hx0 : x.n = 0
     ·have hem : emptyV x.b x.l.length = true := by unfold emptyV; rw [decide_eq_true (show x.b ≤ 0 by omega), decide_eq_true (show x.l.length = 0 by omega)]; rfl
      rw [hx0]
      conv=>arg 5;whnf
      exact wp_back fun β ρ w' hM' => ⟨bad (shOk_false (i := k) (hno2 hem)), hM'.below⟩
     ·have hem : emptyV x.b x.l.length = false := by unfold emptyV; rw [decide_eq_false (show ¬ x.l.length = 0 by omega), Bool.and_false]
      obtain ⟨r, hr⟩ : ∃ r, x.n = r + 1 := ⟨x.n - 1, by omega⟩
      conv=>arg 5;whnf
      refine wp_g0 (fun h9 => ?_) (fun h9 => ?_)
      rotate_left
      ·have h10 : (x.n : Int) = 0 := eq_of_beq h9
       omega
      conv=>arg 5;whnf
      refine wp_g1 (fun h5 => ?_) (fun h5 => ?_)
      ·have hk0 : 0 < k := by have h6 : (0 : Int) < (k : Int) := of_decide_eq_true h5; omega
       obtain ⟨j, rfl⟩ : ∃ j, k = j + 1 := ⟨k - 1, by omega⟩
       obtain ⟨y, hy⟩ : ∃ y, L[j]? = some y := ⟨_, List.getElem?_eq_getElem (by omega)⟩
       have hS := okI_succ1 (per := C.per) hxP (show (L.map acP)[j]? = some (acP y) by rw [List.getElem?_map, hy]; rfl)
       conv=>arg 5;whnf
       refine wp_must ⟨by show -9223372036854775808 ≤ ((j + 1 : Nat) : Int) - 1; omega, by show ((j + 1 : Nat) : Int) - 1 ≤ 9223372036854775807; omega⟩ ?_
       conv=>arg 5;whnf
       refine wp_must ⟨by show 0 ≤ ((j + 1 : Nat) : Int) - 1; omega, by show ((j + 1 : Nat) : Int) - 1 < (n : Int); omega, hs.some (show j < n by omega)⟩ ?_
       conv=>arg 5;whnf
       refine readF (sz := 3) (k := j) (f := 0) (.int .i64 y.s) rfl (.head _) (show j < n by omega) (hs.some (show j < n by omega)) (cellsA_at hy 0 _ rfl) (by rw [show (((j + 1 : Nat) : Int) - 1).toNat = j by omega]) ?_
       conv=>arg 5;whnf
       refine wp_must ⟨by omega, by show ((j + 1 : Nat) : Int) < (n : Int); omega, hs.some hlt⟩ ?_
       conv=>arg 5;whnf
       refine readF (sz := 3) (k := j + 1) (f := 0) (.int .i64 x.s) rfl (.head _) hlt (hs.some hlt) (cellsA_at hx 0 _ rfl) rfl ?_
       conv=>arg 5;whnf
       refine wp_br (fun h7 => ?_) (fun h7 => ?_)
       ·have h8 : y.s ≥ x.s := of_decide_eq_true h7
        conv=>arg 5;whnf
        exact wp_back fun β ρ w' hM' => ⟨bad (shOk_false (i := j + 1) (by rw [hS, decide_eq_false (show ¬ (acP y).1 < (acP x).1 from by show ¬ y.s < x.s; omega)]; rfl)), hM'.below⟩
       ·have h8 : ¬ y.s ≥ x.s := of_decide_eq_false h7
        have hokk : okI (L.map acP) 0 1 C.per (j + 1) = true := by rw [hS, decide_eq_true (show (acP y).1 < (acP x).1 from by show y.s < x.s; omega)]; show (true && checkV x.s x.b C.per x.l && !emptyV x.b x.l.length) = true; rw [hcv, hem]; rfl
        conv=>arg 5;whnf
        refine wp_must ⟨by show -9223372036854775808 ≤ (((j + 1 : Nat)) : Int) + 1; omega, by show (((j + 1 : Nat)) : Int) + 1 ≤ 9223372036854775807; omega⟩ ?_
        conv=>arg 5;whnf
        refine wp_end ⟨j + 1 + 1, ⟨hlt, hall true hokk⟩, ⟨by repeat' first | exact trivial | refine ⟨.inl rfl, ?_⟩ | refine ⟨.inr rfl, ?_⟩, ⟨by repeat' first | exact trivial | refine ⟨.inl rfl, ?_⟩ | refine ⟨.inr rfl, ?_⟩, by repeat' first | exact trivial | refine ⟨.inl rfl, ?_⟩ | refine ⟨.inr rfl, ?_⟩, fun _ h => h⟩, rfl⟩, by show n - (j + 1 + 1) < n - (j + 1); omega⟩
      ·have hk0 : k = 0 := by have h6 : ¬ (0 : Int) < (k : Int) := of_decide_eq_false h5; omega
       subst hk0
       have hokk : okI (L.map acP) 0 1 C.per 0 = true := by rw [okI_zero1 hxP]; show (checkV x.s x.b C.per x.l && !emptyV x.b x.l.length) = true; rw [hcv, hem]; rfl
       conv=>arg 5;whnf
       refine wp_must ⟨by show -9223372036854775808 ≤ ((0 : Nat) : Int) + 1; omega, by show ((0 : Nat) : Int) + 1 ≤ 9223372036854775807; omega⟩ ?_
       conv=>arg 5;whnf
       refine wp_end ⟨0 + 1, ⟨hlt, hall true hokk⟩, ⟨by repeat' first | exact trivial | refine ⟨.inl rfl, ?_⟩ | refine ⟨.inr rfl, ?_⟩, ⟨by repeat' first | exact trivial | refine ⟨.inl rfl, ?_⟩ | refine ⟨.inr rfl, ?_⟩, by repeat' first | exact trivial | refine ⟨.inl rfl, ?_⟩ | refine ⟨.inr rfl, ?_⟩, fun _ h => h⟩, rfl⟩, by show n - (0 + 1) < n - 0; omega⟩
    ·have h4 : ¬ x.b = 0 := fun h => by rw [h] at h3; cases h3
     have hem : emptyV x.b x.l.length = false := by unfold emptyV; rw [decide_eq_false (show ¬ x.b ≤ 0 by omega), Bool.false_and]
     conv=>arg 5;whnf
     refine wp_g1 (fun h5 => ?_) (fun h5 => ?_)
     ·have hk0 : 0 < k := by have h6 : (0 : Int) < (k : Int) := of_decide_eq_true h5; omega
      obtain ⟨j, rfl⟩ : ∃ j, k = j + 1 := ⟨k - 1, by omega⟩
      obtain ⟨y, hy⟩ : ∃ y, L[j]? = some y := ⟨_, List.getElem?_eq_getElem (by omega)⟩
      have hS := okI_succ1 (per := C.per) hxP (show (L.map acP)[j]? = some (acP y) by rw [List.getElem?_map, hy]; rfl)
      conv=>arg 5;whnf
      refine wp_must ⟨by show -9223372036854775808 ≤ ((j + 1 : Nat) : Int) - 1; omega, by show ((j + 1 : Nat) : Int) - 1 ≤ 9223372036854775807; omega⟩ ?_
      conv=>arg 5;whnf
      refine wp_must ⟨by show 0 ≤ ((j + 1 : Nat) : Int) - 1; omega, by show ((j + 1 : Nat) : Int) - 1 < (n : Int); omega, hs.some (show j < n by omega)⟩ ?_
      conv=>arg 5;whnf
      refine readF (sz := 3) (k := j) (f := 0) (.int .i64 y.s) rfl (.head _) (show j < n by omega) (hs.some (show j < n by omega)) (cellsA_at hy 0 _ rfl) (by rw [show (((j + 1 : Nat) : Int) - 1).toNat = j by omega]) ?_
      conv=>arg 5;whnf
      refine wp_must ⟨by omega, by show ((j + 1 : Nat) : Int) < (n : Int); omega, hs.some hlt⟩ ?_
      conv=>arg 5;whnf
      refine readF (sz := 3) (k := j + 1) (f := 0) (.int .i64 x.s) rfl (.head _) hlt (hs.some hlt) (cellsA_at hx 0 _ rfl) rfl ?_
      conv=>arg 5;whnf
      refine wp_br (fun h7 => ?_) (fun h7 => ?_)
      ·have h8 : y.s ≥ x.s := of_decide_eq_true h7
       conv=>arg 5;whnf
       exact wp_back fun β ρ w' hM' => ⟨bad (shOk_false (i := j + 1) (by rw [hS, decide_eq_false (show ¬ (acP y).1 < (acP x).1 from by show ¬ y.s < x.s; omega)]; rfl)), hM'.below⟩
      ·have h8 : ¬ y.s ≥ x.s := of_decide_eq_false h7
       have hokk : okI (L.map acP) 0 1 C.per (j + 1) = true := by rw [hS, decide_eq_true (show (acP y).1 < (acP x).1 from by show y.s < x.s; omega)]; show (true && checkV x.s x.b C.per x.l && !emptyV x.b x.l.length) = true; rw [hcv, hem]; rfl
       conv=>arg 5;whnf
       refine wp_must ⟨by show -9223372036854775808 ≤ (((j + 1 : Nat)) : Int) + 1; omega, by show (((j + 1 : Nat)) : Int) + 1 ≤ 9223372036854775807; omega⟩ ?_
       conv=>arg 5;whnf
       refine wp_end ⟨j + 1 + 1, ⟨hlt, hall true hokk⟩, ⟨by repeat' first | exact trivial | refine ⟨.inl rfl, ?_⟩ | refine ⟨.inr rfl, ?_⟩, ⟨by repeat' first | exact trivial | refine ⟨.inl rfl, ?_⟩ | refine ⟨.inr rfl, ?_⟩, by repeat' first | exact trivial | refine ⟨.inl rfl, ?_⟩ | refine ⟨.inr rfl, ?_⟩, fun _ h => h⟩, rfl⟩, by show n - (j + 1 + 1) < n - (j + 1); omega⟩
     ·have hk0 : k = 0 := by have h6 : ¬ (0 : Int) < (k : Int) := of_decide_eq_false h5; omega
      subst hk0
      have hokk : okI (L.map acP) 0 1 C.per 0 = true := by rw [okI_zero1 hxP]; show (checkV x.s x.b C.per x.l && !emptyV x.b x.l.length) = true; rw [hcv, hem]; rfl
      conv=>arg 5;whnf
      refine wp_must ⟨by show -9223372036854775808 ≤ ((0 : Nat) : Int) + 1; omega, by show ((0 : Nat) : Int) + 1 ≤ 9223372036854775807; omega⟩ ?_
      conv=>arg 5;whnf
      refine wp_end ⟨0 + 1, ⟨hlt, hall true hokk⟩, ⟨by repeat' first | exact trivial | refine ⟨.inl rfl, ?_⟩ | refine ⟨.inr rfl, ?_⟩, ⟨by repeat' first | exact trivial | refine ⟨.inl rfl, ?_⟩ | refine ⟨.inr rfl, ?_⟩, by repeat' first | exact trivial | refine ⟨.inl rfl, ?_⟩ | refine ⟨.inr rfl, ?_⟩, fun _ h => h⟩, rfl⟩, by show n - (0 + 1) < n - 0; omega⟩
  ·have hkn : k = n := by have h3 := of_decide_eq_false (show decide ((k : Int) < (n : Int)) = false from h1); omega
   have hfin : shOk (L.map acP) 0 1 C.per = true := by unfold shOk; rw [List.length_map, ← hn, ← hkn]; exact hok
   rw [hfin]
   conv=>arg 5;whnf
   exact wp_back fun β ρ w' hM' => ⟨rfl, hM'.below⟩
end Go.Proofs.YtofpmnkkimgkfaaGreatDoor.pool
namespace Go.Proofs.YtofpmnkkimgkfaaGreatDoor.pool
open Go.RowKit Sx txn queue greedy shard
theorem getP_at {L : List Ac} {s : Int} {k : Nat} {x : Ac} (h0 : ofS s (L.take k) = []) (h : L[k]? = some x) (hx : x.s = s) : getP (L.map acP) s = acP x := by
 have h1 : L = L.take k ++ x :: L.drop (k + 1) := by
  have hk : k < L.length := (List.getElem?_eq_some_iff.1 h).1
  have e := (List.getElem?_eq_some_iff.1 h).2
  rw [← e, ← List.drop_eq_getElem_cons hk, List.take_append_drop]
 have h2 : ofS s L = x :: ofS s (L.drop (k + 1)) := by
  unfold ofS ofK at h0 ⊢
  conv => lhs; rw [h1]
  rw [List.filter_append, h0, List.nil_append, List.filter_cons_of_pos (by simpa using hx)]
 exact getP_cons h2
theorem rget11 (v : Int) (L : List Ac) (a : Option Addr) (n c : Nat) (s : Int) (w : World) (hA : Acs w a n c L) (h1000 : n ≤ 1000000) :
  Calls Tryz.prog 33 (List.toArray [shV a n c v, .int .i64 s]) w fun e w' => ∃ i : One, Sl i.1 (getP (L.map acP) s).2.2.length i.2 ∧ Lay w w' (acsF a n L) e (acc (getP (L.map acP) s).1 (getP (L.map acP) s).2.1 i.1 (getP (L.map acP) s).2.2.length i.2) [rowF (pt i.1 (getP (L.map acP) s).2.2.length) (cellsL (getP (L.map acP) s).2.2)] := by
 have hs := hA.1
 have hn := hA.2.1
 have hn63 := hs.le
 refine calls_of_exec Sxs.env_ok.keeps Tryz.func33 rfl [] (schedQ_ok _ _ (by kernel_rfl)) (acsF a n L) hA.facts ?_
 conv=>arg 5;whnf
 refine loop_ruleE Sxs.env_ok.keeps [] (schedQ_ok _ _ (by kernel_rfl)) [2] (fun k : Nat => k ≤ n ∧ ofS s (L.take k) = []) (fun k => (⟨[some ([.v (.slice a n c), .v (.int .i64 v)], 63), some ([.v (.int .i64 0), .v (.int .i64 0), .v (.slice none 0 0)], 65)], [], acsF a n L⟩, [.any, .v (.int .i64 s), .p 0 0, .any, .p 1 0, .v (.int .i64 k), .any, .any, .any, .any, .any, .any, .any, .any, .any, .any, .any, .any, .any, .any, .any, .any, .any, .any, .any, .any, .any, .any])) (fun k => n - k) 0 ⟨Nat.zero_le _, rfl⟩ ⟨by repeat' first | exact trivial | refine ⟨.inl rfl, ?_⟩ | refine ⟨.inr rfl, ?_⟩, ⟨by repeat' first | exact trivial | refine ⟨.inl rfl, ?_⟩ | refine ⟨.inr rfl, ?_⟩, by repeat' first | exact trivial | refine ⟨.inl rfl, ?_⟩ | refine ⟨.inr rfl, ?_⟩, fun _ h => h⟩, rfl⟩ ?_
 rintro k ⟨hk, hno⟩
 conv=>arg 5;whnf
 refine wp_br (fun h1 => ?_) (fun h1 => ?_)
 ·have hlt : k < n := by have h3 := of_decide_eq_true (show decide ((k : Int) < (n : Int)) = true from h1); omega
  obtain ⟨y, hy⟩ : ∃ y, L[k]? = some y := ⟨_, List.getElem?_eq_getElem (by omega)⟩
  have hym : y ∈ L := List.mem_of_getElem? hy
  obtain ⟨⟨ys, yn, yl, yd⟩, _⟩ := hA.2.2.2 y hym
  have hst := ofS_take hy s
  conv=>arg 5;whnf
  refine wp_must ⟨by omega, by show (k : Int) < (n : Int); omega, hs.some hlt⟩ ?_
  conv=>arg 5;whnf
  refine readF (sz := 3) (k := k) (f := 0) (.int .i64 y.s) rfl (.head _) hlt (hs.some hlt) (cellsA_at hy 0 _ rfl) rfl ?_
  conv=>arg 5;whnf
  refine wp_br (fun h2 => ?_) (fun h2 => ?_)
  ·have h3 : y.s = s := eq_of_beq h2
   have hg := getP_at hno hy h3
   rw [hg]
   conv=>arg 5;whnf
   refine wp_must ⟨by omega, by show (k : Int) < (n : Int); omega, hs.some hlt⟩ ?_
   conv=>arg 5;whnf
   refine readG Sxs.env_ok (vs := y.cs) (sz := 3) (k := k) rfl rfl (.head _) hlt (hs.some hlt) (cellsA_at hy) rfl ?_
   conv=>arg 5;whnf
   refine wp_back fun β ρ w' hM' => ⟨(y.a, y.c), yn ▸ ys, by rw [show (acP y).2.2.length = y.n from yn.symm]; rfl, hM'.below, fun φ hφ g hg => ?_⟩
   simp only [List.mem_singleton] at hφ
   subst hφ
   have hm : acF y ∈ acsF a n L := .tail _ (List.mem_map.2 ⟨y, hym, rfl⟩)
   have e : acF y = rowF (pt y.a (acP y).2.2.length) (cellsL (acP y).2.2) := by unfold acF; rw [yn]; rfl
   rw [← e] at hg ⊢
   exact ⟨.inr ⟨_, hm, hg⟩, (hM'.fact _ hm g hg).2⟩
  ·have h3 : ¬ y.s = s := fun h => by rw [h] at h2; simp at h2
   rw [if_neg h3, hno] at hst
   conv=>arg 5;whnf
   refine wp_must ⟨by show -9223372036854775808 ≤ (k : Int) + 1; omega, by show (k : Int) + 1 ≤ 9223372036854775807; omega⟩ ?_
   conv=>arg 5;whnf
   refine wp_end ⟨k + 1, ⟨hlt, hst⟩, ⟨by repeat' first | exact trivial | refine ⟨.inl rfl, ?_⟩ | refine ⟨.inr rfl, ?_⟩, ⟨by repeat' first | exact trivial | refine ⟨.inl rfl, ?_⟩ | refine ⟨.inr rfl, ?_⟩, by repeat' first | exact trivial | refine ⟨.inl rfl, ?_⟩ | refine ⟨.inr rfl, ?_⟩, fun _ h => h⟩, rfl⟩, by show n - (k + 1) < n - k; omega⟩
 ·have hkn : k = n := by have h3 := of_decide_eq_false (show decide ((k : Int) < (n : Int)) = false from h1); omega
  have e : L.take k = L := List.take_of_length_le (by omega)
  rw [e] at hno
  rw [getP_nil hno]
  conv=>arg 5;whnf
  exact wp_back fun β ρ w' hM' => ⟨(none, 0), sl0, rfl, hM'.below, fun φ hφ g hg => by simp only [List.mem_singleton] at hφ; subst hφ; cases hg⟩
section
variable {W : World} {G : Option Nat} {Q : Ending → World → Prop} {ds : List Deferred}
theorem meetAc {f : FuncId} {args : List Sx.T} {l : List Value} {m : M} {k : Value → List Fact → Tree} (p : PA) (old : List Fact) (hold : ∀ ψ ∈ old, ψ ∈ m.facts) (hv : valsOf args = some l) (hc : callable Tryz.prog f = true)
  (hC : ∀ β ρ w, Mem W G m β ρ w → Calls Tryz.prog f (List.toArray l) w fun e w' => ∃ i : One, Sl i.1 p.2.2.length i.2 ∧ Lay w w' old e (acc p.1 p.2.1 i.1 p.2.2.length i.2) [rowF (pt i.1 p.2.2.length) (cellsL p.2.2)])
  (h : ∀ u cu, Sl u p.2.2.length cu → New W old (rowF (pt u p.2.2.length) (cellsL p.2.2)) → (k (acc p.1 p.2.1 u p.2.2.length cu) [rowF (pt u p.2.2.length) (cellsL p.2.2)]).wpD Tryz.prog W G Q ds) : (Tree.call f args m k).wpD Tryz.prog W G Q ds :=
 meetLy (ι := One) (ok := fun i => Sl i.1 p.2.2.length i.2) (v := fun i => acc p.1 p.2.1 i.1 p.2.2.length i.2) (fs := fun i => [rowF (pt i.1 p.2.2.length) (cellsL p.2.2)]) old hold hv hc hC (fun i hi hf => h i.1 i.2 hi (hf _ (.head _)))
end
theorem rget (L : List Ac) (a : Option Addr) (n c : Nat) (s : Int) (w : World) (hA : Acs w a n c L) (h1000 : n ≤ 1000000) :
  Calls Tryz.prog 62 (List.toArray [.slice a n c, .int .i64 s]) w fun e w' => ∃ i : One, Sl i.1 (getP (L.map acP) s).2.2.length i.2 ∧ Lay w w' (acsF a n L) e (acc (getP (L.map acP) s).1 (getP (L.map acP) s).2.1 i.1 (getP (L.map acP) s).2.2.length i.2) [rowF (pt i.1 (getP (L.map acP) s).2.2.length) (cellsL (getP (L.map acP) s).2.2)] := by
 have GT := fun w hA => rget11 0 L a n c s w hA h1000
 generalize getP (L.map acP) s = p at *
 refine calls_of_exec Sxs.env_ok.keeps Tryz.func62 rfl [] (schedQ_ok _ _ (by kernel_rfl)) (acsF a n L) hA.facts ?_
 conv=>arg 5;whnf
 refine meetAc (f := 33) p (acsF a n L) (fun ψ h => h) rfl (by kernel_rfl) (fun β ρ w' hM' => GT w' (Mem.acs hA hM' fun φ hφ => hφ)) (fun u c_u h_u f_u => ?_)
 conv=>arg 5;whnf
 refine wp_back fun β ρ w' hM' => ⟨(u, c_u), h_u, rfl, hM'.below, fun φ hφ g hg => ?_⟩
 simp only [List.mem_singleton] at hφ
 subst hφ
 exact ⟨f_u g hg, (hM'.fact _ (.head _) g hg).2⟩
theorem snoc_ind {α : Type} {p : List α → Prop} (nil : p []) (snoc : ∀ L x, p L → p (L ++ [x])) : ∀ L, p L := fun L => by
 rw [← L.reverse_reverse]
 induction L.reverse with
 | nil => exact nil
 | cons x l ih => rw [List.reverse_cons]; exact snoc _ _ ih
section
variable {α β : Type}
def rsS (f : α → Int) (a : α) (st : List α × Bool) (x : α) : List α × Bool := if f x = f a then st else if st.2 = false ∧ f a < f x then (st.1 ++ [a, x], true) else (st.1 ++ [x], st.2)
def rsF (f : α → Int) (a : α) (ly : Bool) (L : List α) : List α × Bool := L.foldl (rsS f a) ([], ly)
def rsV (f : α → Int) (a : α) (ly : Bool) (L : List α) : List α := if (rsF f a ly L).2 = true then (rsF f a ly L).1 else (rsF f a ly L).1 ++ [a]
theorem rsF_take {f : α → Int} {a : α} {ly : Bool} {L : List α} {k : Nat} {x : α} (h : L[k]? = some x) : rsF f a ly (L.take (k + 1)) = rsS f a (rsF f a ly (L.take k)) x := by unfold rsF; rw [List.take_add_one, h, List.foldl_append]; rfl
theorem rsF_snoc (f : α → Int) (a : α) (ly : Bool) (L : List α) (x : α) : rsF f a ly (L ++ [x]) = rsS f a (rsF f a ly L) x := by unfold rsF; rw [List.foldl_append]; rfl
theorem rsF_le (f : α → Int) (a : α) (ly : Bool) (L : List α) : ((rsF f a ly L).2 = false → (rsF f a ly L).1.length ≤ L.length) ∧ (rsF f a ly L).1.length ≤ L.length + 1 := by
 induction L using snoc_ind with
 | nil => exact ⟨fun _ => Nat.le_refl _, Nat.zero_le _⟩
 | snoc L x ih =>
  rw [rsF_snoc]
  unfold rsS
  simp only [List.length_append, List.length_singleton]
  split
  ·exact ⟨fun h => by have := ih.1 h; omega, by omega⟩
  ·split
   ·rename_i h2
    have := ih.1 h2.1
    exact ⟨fun h => by (cases h), by simp only [List.length_append, List.length_cons, List.length_nil]; omega⟩
   ·simp only [List.length_append, List.length_cons, List.length_nil]
    exact ⟨fun h => by have := ih.1 h; omega, by omega⟩
theorem rsF_mem {f : α → Int} {a : α} {ly : Bool} {L : List α} {z : α} (h : z ∈ (rsF f a ly L).1) : z ∈ L ∨ z = a := by
 induction L using snoc_ind with
 | nil => cases h
 | snoc L x ih =>
  rw [rsF_snoc] at h
  unfold rsS at h
  rw [List.mem_append]
  split at h
  ·exact (ih h).elim (fun h => .inl (.inl h)) .inr
  ·split at h
   ·rcases List.mem_append.1 h with h | h
    ·exact (ih h).elim (fun h => .inl (.inl h)) .inr
    ·simp only [List.mem_cons, List.not_mem_nil, or_false] at h
     exact h.elim .inr fun h => .inl (.inr (by simpa using h))
   ·rcases List.mem_append.1 h with h | h
    ·exact (ih h).elim (fun h => .inl (.inl h)) .inr
    ·exact .inl (.inr h)
theorem rsF_map (f : α → Int) (g : β → Int) (h : α → β) (hf : ∀ x, g (h x) = f x) (a : α) (ly : Bool) (L : List α) : rsF g (h a) ly (L.map h) = ((rsF f a ly L).1.map h, (rsF f a ly L).2) := by
 induction L using snoc_ind with
 | nil => rfl
 | snoc L x ih =>
  rw [List.map_append, List.map_singleton, rsF_snoc, rsF_snoc, ih]
  unfold rsS
  rw [hf, hf]
  split
  ·rfl
  ·simp only []
   split
   ·rw [List.map_append]; rfl
   ·rw [List.map_append]; rfl
end
theorem rsF_setF (a : PA) (L : List PA) : rsF (fun x : PA => x.1) a true L = ((setF L a).1 ++ (setF L a).2, true) ∧ rsF (fun x : PA => x.1) a false L = (if (setF L a).2 = [] then ((setF L a).1, false) else ((setF L a).1 ++ a :: (setF L a).2, true)) := by
 induction L using snoc_ind with
 | nil => exact ⟨rfl, rfl⟩
 | snoc L x ih =>
  have e : setF (L ++ [x]) a = setS a (setF L a) x := by unfold setF; rw [List.foldl_append]; rfl
  rw [rsF_snoc, rsF_snoc, ih.1, ih.2, e]
  generalize setF L a = st
  obtain ⟨A, B⟩ := st
  unfold rsS setS
  simp only []
  by_cases h1 : x.1 = a.1
  ·rw [if_pos h1, if_pos h1, if_pos h1]
   exact ⟨rfl, rfl⟩
  ·rw [if_neg h1, if_neg h1, if_neg h1]
   by_cases hB : B = []
   ·subst hB
    by_cases h2 : a.1 < x.1
    ·simp [h2]
    ·simp [h2]
   ·simp [hB]
theorem rsV_setP (a : PA) (L : List PA) : rsV (fun x : PA => x.1) a (emptyV a.2.1 a.2.2.length) L = setP L a := by
 unfold rsV setP
 cases emptyV a.2.1 a.2.2.length with
 | true => rw [(rsF_setF a L).1]; simp
 | false =>
  rw [(rsF_setF a L).2]
  by_cases h : (setF L a).2 = []
  ·simp [h]
  ·simp [h]
def keyA (x : Ac) : Int := x.s
theorem rsV_acs (x : Ac) (L : List Ac) (hx : x.n = x.l.length) : (rsV keyA x (emptyV x.b x.n) L).map acP = setP (L.map acP) (acP x) := by
 rw [← rsV_setP]
 show _ = rsV (fun y : PA => y.1) (acP x) (emptyV x.b x.l.length) _
 rw [← hx]
 unfold rsV
 rw [rsF_map keyA (fun y : PA => y.1) acP (fun _ => rfl)]
 simp only []
 split
 ·rfl
 ·rw [List.map_append]; rfl
theorem rempty (s b : Int) (a : Option Addr) (n c : Nat) (w : World) (hb : 0 ≤ b) : Calls Tryz.prog 75 (List.toArray [acc s b a n c]) w fun e w' => e = .returned (.bool (emptyV b n)) ∧ Below w.heap.size w w' := by
 refine calls_of_exec Sxs.env_ok.keeps Tryz.func75 rfl [] (schedQ_ok _ _ (by kernel_rfl)) [] (by simp) ?_
 conv=>arg 5;whnf
 refine wp_g1 (fun h1 => ?_) (fun h1 => ?_)
 ·have h2 : b = 0 := eq_of_beq h1
  have e : emptyV b n = ((n : Int) == 0) := by unfold emptyV; rw [decide_eq_true (show b ≤ 0 by omega), Bool.true_and, Bool.eq_iff_iff, beq_iff_eq, decide_eq_true_eq]; omega
  rw [e]
  conv=>arg 5;whnf
  exact wp_back fun β ρ w' hM' => ⟨rfl, hM'.below⟩
 ·have h2 : ¬ b = 0 := fun h => by rw [h] at h1; cases h1
  have e : emptyV b n = false := by unfold emptyV; rw [decide_eq_false (show ¬ b ≤ 0 by omega)]; rfl
  rw [e]
  conv=>arg 5;whnf
  exact wp_back fun β ρ w' hM' => ⟨rfl, hM'.below⟩
theorem rset11 (L : List Ac) (x : Ac) (v : Int) (a : Option Addr) (n c : Nat) (w : World) (hA : Acs w a n c L) (h1000 : n ≤ 100000) (hb : 0 ≤ x.b) :
  Calls Tryz.prog 37 (List.toArray [shV a n c v, acc x.s x.b x.a x.n x.c]) w fun e w' => ∃ i : One, Sl i.1 (rsV keyA x (emptyV x.b x.n) L).length i.2 ∧ Gives w w' e (shV i.1 (rsV keyA x (emptyV x.b x.n) L).length i.2 (nextV v)) [rowF (pt i.1 (rsV keyA x (emptyV x.b x.n) L).length) (cellsA (rsV keyA x (emptyV x.b x.n) L))] := by
 have hs := hA.1
 have hn := hA.2.1
 have hn63 := hs.le
 have EM := fun w => rempty x.s x.b x.a x.n x.c w hb
 generalize emptyV x.b x.n = em at *
 refine calls_of_exec Sxs.env_ok.keeps Tryz.func37 rfl [] (schedQ_ok _ _ (by kernel_rfl)) [rowF (pt a n) (cellsA L)] (at1 hA.2.2.1) ?_
 conv=>arg 5;whnf
 refine meetc (f := 75) (v := .bool em) rfl (by kernel_rfl) (fun β ρ w' hM' => EM w') ?_
 conv=>arg 5;whnf
 refine loop_nil 5 65 3 rfl ?_
 refine loop_ruleE Sxs.env_ok.keeps [] (schedQ_ok _ _ (by kernel_rfl)) [3, 3, 3] (fun k : Nat => k ≤ n) (fun k => (⟨[some ([.v (.slice a n c), .v (.int .i64 v)], 63), some ([.v (.int .i64 x.s), .v (.int .i64 x.b), .v (.slice x.a x.n x.c)], 65), some ([.v (.slice none 0 0), .v (.int .i64 0)], 63)], [some ⟨65, 3, (rsF keyA x em (L.take k)).1.length, cellsA (rsF keyA x em (L.take k)).1⟩], [rowF (pt a n) (cellsA L)]⟩, [.any, .any, .p 0 0, .p 1 0, .p 2 0, .r 0, .v (.bool (rsF keyA x em (L.take k)).2), .v (.int .i64 k), .any, .any, .any, .any, .any, .any, .any, .any, .any, .any, .any, .any, .any, .any, .any, .any, .any, .any, .any, .any, .any, .any, .any, .any, .any, .any, .any, .any, .any, .any, .any, .any, .any, .any, .any, .any, .any, .any, .any, .any, .any, .any, .any, .any, .any, .any, .any, .any, .any, .any, .any, .any, .any, .any, .any, .any, .any, .any])) (fun k => n - k) 0 (Nat.zero_le _) ⟨by repeat' first | exact trivial | refine ⟨.inl rfl, ?_⟩ | refine ⟨.inr rfl, ?_⟩, ⟨by repeat' first | exact trivial | refine ⟨.inl rfl, ?_⟩ | refine ⟨.inr rfl, ?_⟩, by repeat' first | exact trivial | refine ⟨.inl rfl, ?_⟩ | refine ⟨.inr rfl, ?_⟩, fun _ h => h⟩, rfl⟩ ?_
 intro k hk
 have hle := rsF_le keyA x em (L.take k)
 have hlt0 : (L.take k).length ≤ k := by rw [List.length_take]; omega
 have hO : ∃ O, rsF keyA x em (L.take k) = O := ⟨_, rfl⟩
 obtain ⟨⟨O, ly⟩, hO⟩ := hO
 rw [hO] at hle
 have hOl : O.length ≤ k + 1 := by have : O.length ≤ (L.take k).length + 1 := hle.2; omega
 rw [hO]
 conv=>arg 5;whnf
 refine wp_br (fun h1 => ?_) (fun h1 => ?_)
 ·have hlt : k < n := by have h3 := of_decide_eq_true (show decide ((k : Int) < (n : Int)) = true from h1); omega
  obtain ⟨y, hy⟩ : ∃ y, L[k]? = some y := ⟨_, List.getElem?_eq_getElem (by omega)⟩
  have htk := rsF_take (f := keyA) (a := x) (ly := em) hy
  rw [hO] at htk
  conv=>arg 5;whnf
  refine wp_must ⟨by omega, by show (k : Int) < (n : Int); omega, hs.some hlt⟩ ?_
  conv=>arg 5;whnf
  refine readG Sxs.env_ok (vs := y.cs) (sz := 3) (k := k) rfl rfl (.head _) hlt (hs.some hlt) (cellsA_at hy) rfl ?_
  conv=>arg 5;whnf
  refine wp_br (fun h2 => ?_) (fun h2 => ?_)
  ·have h3 : keyA y = keyA x := eq_of_beq h2
   have hst : rsF keyA x em (L.take (k + 1)) = (O, ly) := by rw [htk]; exact if_pos h3
   conv=>arg 5;whnf
   refine wp_must ⟨by show -9223372036854775808 ≤ (k : Int) + 1; omega, by show (k : Int) + 1 ≤ 9223372036854775807; omega⟩ ?_
   conv=>arg 5;whnf
   refine wp_end ⟨k + 1, hlt, ⟨by rw [hst]; repeat' first | exact trivial | refine ⟨.inl rfl, ?_⟩ | refine ⟨.inr rfl, ?_⟩, ⟨by repeat' first | exact trivial | refine ⟨.inl rfl, ?_⟩ | refine ⟨.inr rfl, ?_⟩, by rw [hst]; repeat' first | exact trivial | refine ⟨.inl rfl, ?_⟩ | refine ⟨.inr rfl, ?_⟩, fun _ h => h⟩, rfl⟩, by show n - (k + 1) < n - k; omega⟩
  ·have h3 : ¬ keyA y = keyA x := fun h => by rw [show y.s = x.s from h] at h2; simp at h2
   cases ly with
   | true =>
    have hst : rsF keyA x em (L.take (k + 1)) = (O ++ [y], true) := by rw [htk]; exact (if_neg h3).trans (if_neg (fun h => by cases h.1))
    have ec : cellsA (O ++ [y]) = cellsA O ++ y.cs := cellsA_append O y
    have el : (O ++ [y]).length = O.length + 1 := by simp
    conv=>arg 5;whnf
    refine wp_must ⟨by show O.length + 1 ≤ maxLen; unfold maxLen; omega, by show (O.length + 1) * 40 ≤ 140737488355328; omega⟩ ?_
    conv=>arg 5;whnf
    refine wp_must ⟨by show -9223372036854775808 ≤ (k : Int) + 1; omega, by show (k : Int) + 1 ≤ 9223372036854775807; omega⟩ ?_
    conv=>arg 5;whnf
    refine wp_end ⟨k + 1, hlt, ⟨by rw [hst]; repeat' first | exact trivial | refine ⟨.inl rfl, ?_⟩ | refine ⟨.inr rfl, ?_⟩, ⟨by repeat' first | exact trivial | refine ⟨.inl rfl, ?_⟩ | refine ⟨.inr rfl, ?_⟩, by rw [hst]; simp only []; rw [ec, el]; repeat' first | exact trivial | refine ⟨.inl rfl, ?_⟩ | refine ⟨.inr rfl, ?_⟩, fun _ h => h⟩, rfl⟩, by show n - (k + 1) < n - k; omega⟩
   | false =>
    have hOl2 : O.length ≤ k := by have : O.length ≤ (L.take k).length := hle.1 rfl; omega
    conv=>arg 5;whnf
    refine wp_br (fun h4 => ?_) (fun h4 => ?_)
    ·have h5 : keyA x < keyA y := of_decide_eq_true h4
     have hst : rsF keyA x em (L.take (k + 1)) = (O ++ [x, y], true) := by rw [htk]; exact (if_neg h3).trans (if_pos ⟨rfl, h5⟩)
     have ec : cellsA (O ++ [x, y]) = (cellsA O ++ x.cs) ++ y.cs := by rw [show O ++ [x, y] = (O ++ [x]) ++ [y] from by simp, cellsA_append, cellsA_append]
     have el : (O ++ [x, y]).length = O.length + 1 + 1 := by simp
     conv=>arg 5;whnf
     refine wp_must ⟨by show O.length + 1 ≤ maxLen; unfold maxLen; omega, by show (O.length + 1) * 40 ≤ 140737488355328; omega⟩ ?_
     conv=>arg 5;whnf
     refine wp_must ⟨by show O.length + 1 + 1 ≤ maxLen; unfold maxLen; omega, by show (O.length + 1 + 1) * 40 ≤ 140737488355328; omega⟩ ?_
     conv=>arg 5;whnf
     refine wp_must ⟨by show -9223372036854775808 ≤ (k : Int) + 1; omega, by show (k : Int) + 1 ≤ 9223372036854775807; omega⟩ ?_
     conv=>arg 5;whnf
     refine wp_end ⟨k + 1, hlt, ⟨by rw [hst]; repeat' first | exact trivial | refine ⟨.inl rfl, ?_⟩ | refine ⟨.inr rfl, ?_⟩, ⟨by repeat' first | exact trivial | refine ⟨.inl rfl, ?_⟩ | refine ⟨.inr rfl, ?_⟩, by rw [hst]; simp only []; rw [ec, el]; repeat' first | exact trivial | refine ⟨.inl rfl, ?_⟩ | refine ⟨.inr rfl, ?_⟩, fun _ h => h⟩, rfl⟩, by show n - (k + 1) < n - k; omega⟩
    ·have h5 : ¬ keyA x < keyA y := of_decide_eq_false h4
     have hst : rsF keyA x em (L.take (k + 1)) = (O ++ [y], false) := by rw [htk]; exact (if_neg h3).trans (if_neg (fun h => h5 h.2))
     have ec : cellsA (O ++ [y]) = cellsA O ++ y.cs := cellsA_append O y
     have el : (O ++ [y]).length = O.length + 1 := by simp
     conv=>arg 5;whnf
     refine wp_must ⟨by show O.length + 1 ≤ maxLen; unfold maxLen; omega, by show (O.length + 1) * 40 ≤ 140737488355328; omega⟩ ?_
     conv=>arg 5;whnf
     refine wp_must ⟨by show -9223372036854775808 ≤ (k : Int) + 1; omega, by show (k : Int) + 1 ≤ 9223372036854775807; omega⟩ ?_
     conv=>arg 5;whnf
     refine wp_end ⟨k + 1, hlt, ⟨by rw [hst]; repeat' first | exact trivial | refine ⟨.inl rfl, ?_⟩ | refine ⟨.inr rfl, ?_⟩, ⟨by repeat' first | exact trivial | refine ⟨.inl rfl, ?_⟩ | refine ⟨.inr rfl, ?_⟩, by rw [hst]; simp only []; rw [ec, el]; repeat' first | exact trivial | refine ⟨.inl rfl, ?_⟩ | refine ⟨.inr rfl, ?_⟩, fun _ h => h⟩, rfl⟩, by show n - (k + 1) < n - k; omega⟩
 ·have hkn : k = n := by have h3 := of_decide_eq_false (show decide ((k : Int) < (n : Int)) = false from h1); omega
  have e : L.take k = L := List.take_of_length_le (by omega)
  rw [e] at hO
  have hOn : O.length ≤ n + 1 := by omega
  cases ly with
  | true =>
   have hin : rsV keyA x em L = O := by unfold rsV; rw [hO]; rfl
   rw [hin]
   conv=>arg 5;whnf
   refine wp_g1 (fun h6 => ?_) (fun h6 => ?_)
   ·have h7 : 0 ≤ v := of_decide_eq_true h6
    conv=>arg 5;whnf
    refine wp_br (fun h8 => ?_) (fun h8 => ?_)
    ·have h9 : v < 1099511627776 := of_decide_eq_true h8
     have ev : nextV v = v + 1 := if_neg (by omega)
     rw [ev]
     conv=>arg 5;whnf
     refine wp_must ⟨by omega, by omega⟩ ?_
     conv=>arg 5;whnf
     refine wp_share fun u c_u h_u f_u => ?_
     conv=>arg 5;whnf
     refine wp_back fun β ρ w' hM' => ⟨(u, c_u), h_u, rfl, hM'.below, fun φ hφ => ?_⟩
     simp only [List.mem_singleton] at hφ
     subst hφ
     exact giveF _ hM' (.head _) f_u
    ·have h9 : ¬ v < 1099511627776 := of_decide_eq_false h8
     have ev : nextV v = 0 := if_pos (by omega)
     rw [ev]
     conv=>arg 5;whnf
     refine wp_share fun u c_u h_u f_u => ?_
     conv=>arg 5;whnf
     refine wp_back fun β ρ w' hM' => ⟨(u, c_u), h_u, rfl, hM'.below, fun φ hφ => ?_⟩
     simp only [List.mem_singleton] at hφ
     subst hφ
     exact giveF _ hM' (.head _) f_u
   ·have h7 : ¬ 0 ≤ v := of_decide_eq_false h6
    have ev : nextV v = 0 := if_pos (by omega)
    rw [ev]
    conv=>arg 5;whnf
    refine wp_share fun u c_u h_u f_u => ?_
    conv=>arg 5;whnf
    refine wp_back fun β ρ w' hM' => ⟨(u, c_u), h_u, rfl, hM'.below, fun φ hφ => ?_⟩
    simp only [List.mem_singleton] at hφ
    subst hφ
    exact giveF _ hM' (.head _) f_u
  | false =>
   have hin : rsV keyA x em L = O ++ [x] := by unfold rsV; rw [hO]; rfl
   have ec : cellsA (O ++ [x]) = cellsA O ++ x.cs := cellsA_append O x
   have el : (O ++ [x]).length = O.length + 1 := by simp
   rw [hin, ec, el]
   conv=>arg 5;whnf
   refine wp_must ⟨by show O.length + 1 ≤ maxLen; unfold maxLen; omega, by show (O.length + 1) * 40 ≤ 140737488355328; omega⟩ ?_
   conv=>arg 5;whnf
   refine wp_g1 (fun h6 => ?_) (fun h6 => ?_)
   ·have h7 : 0 ≤ v := of_decide_eq_true h6
    conv=>arg 5;whnf
    refine wp_br (fun h8 => ?_) (fun h8 => ?_)
    ·have h9 : v < 1099511627776 := of_decide_eq_true h8
     have ev : nextV v = v + 1 := if_neg (by omega)
     rw [ev]
     conv=>arg 5;whnf
     refine wp_must ⟨by omega, by omega⟩ ?_
     conv=>arg 5;whnf
     refine wp_share fun u c_u h_u f_u => ?_
     conv=>arg 5;whnf
     refine wp_back fun β ρ w' hM' => ⟨(u, c_u), h_u, rfl, hM'.below, fun φ hφ => ?_⟩
     simp only [List.mem_singleton] at hφ
     subst hφ
     exact giveF _ hM' (.head _) f_u
    ·have h9 : ¬ v < 1099511627776 := of_decide_eq_false h8
     have ev : nextV v = 0 := if_pos (by omega)
     rw [ev]
     conv=>arg 5;whnf
     refine wp_share fun u c_u h_u f_u => ?_
     conv=>arg 5;whnf
     refine wp_back fun β ρ w' hM' => ⟨(u, c_u), h_u, rfl, hM'.below, fun φ hφ => ?_⟩
     simp only [List.mem_singleton] at hφ
     subst hφ
     exact giveF _ hM' (.head _) f_u
   ·have h7 : ¬ 0 ≤ v := of_decide_eq_false h6
    have ev : nextV v = 0 := if_pos (by omega)
    rw [ev]
    conv=>arg 5;whnf
    refine wp_share fun u c_u h_u f_u => ?_
    conv=>arg 5;whnf
    refine wp_back fun β ρ w' hM' => ⟨(u, c_u), h_u, rfl, hM'.below, fun φ hφ => ?_⟩
    simp only [List.mem_singleton] at hφ
    subst hφ
    exact giveF _ hM' (.head _) f_u
end Go.Proofs.YtofpmnkkimgkfaaGreatDoor.pool
namespace Go.Proofs.YtofpmnkkimgkfaaGreatDoor.pool
open Go.RowKit Sx txn queue greedy shard
structure Oq where
 k : Int
 s : Int
 v : Int
 g : Int
 d : ByteArray
def Oq.val (O : Oq) : Value := .agg #[.int .i64 O.k, .int .i64 O.s, .int .i64 O.v, .int .i64 O.g, .string O.d]
def askV (C : Cf) (a : Option Addr) (n c : Nat) (O : Oq) : Value := .agg #[.int .i64 C.sh, .int .i64 C.so, .int .i64 C.hd, .int .i64 C.per, .int .i64 C.bp, .int .i64 C.fd, .int .i64 C.wk, .int .i64 C.rm, .slice a n c, .int .i64 0, .int .i64 O.k, .int .i64 O.s, .int .i64 O.v, .int .i64 O.g, .string O.d]
structure Rq where
 e : Int
 t : Tx
 l : List Tx
 n : Int
def resV (r : Rq) (a : Option Addr) (c : Nat) : Value := .agg #[.int .i64 r.e, .int .i64 r.t.s, .int .i64 r.t.n, .int .i64 r.t.t, .int .i64 r.t.c, .int .i64 r.t.g, .string r.t.d, .slice a r.l.length c, .int .i64 r.n]
abbrev Ev := Int × Tx
def evC (q : Ev) : List Value := [.int .i64 q.1, .int .i64 q.2.s, .int .i64 q.2.n, .int .i64 q.2.t, .int .i64 q.2.c, .int .i64 q.2.g, .string q.2.d, .int .i64 0]
def cellsE (l : List Ev) : List Value := l.flatMap evC
theorem cellsE_snoc (l : List Ev) (q : Ev) : cellsE (l ++ [q]) = cellsE l ++ evC q := by simp [cellsE]
theorem cellsE_app (l r : List Ev) : cellsE (l ++ r) = cellsE l ++ cellsE r := by simp [cellsE]
theorem cellsE_length (l : List Ev) : (cellsE l).length = l.length * 8 := by
 induction l with
 | nil => rfl
 | cons x l ih => unfold cellsE at *; rw [List.flatMap_cons, List.length_append, ih]; simp [evC]; omega
theorem cellsE_one (l : List Ev) : ∀ u ∈ cellsE l, u.oneCell' = true := by
 intro u hu
 obtain ⟨x, _, hx⟩ := List.mem_flatMap.1 hu
 simp only [evC, List.mem_cons, List.not_mem_nil, or_false] at hx
 rcases hx with rfl | rfl | rfl | rfl | rfl | rfl | rfl | rfl <;> rfl
abbrev Rs3 := List PA × Rq × List Ev
structure An where
 a : Option Addr
 c : Nat
 L : List Ac
 ta : Option Addr
 tc : Nat
 ea : Option Addr
 ec : Nat
def An.ok (x : An) (R : Rs3) : Prop := x.L.map acP = R.1 ∧ (∀ y ∈ x.L, y.fit) ∧ Sl x.a x.L.length x.c ∧ Sl x.ta R.2.1.l.length x.tc ∧ Sl x.ea R.2.2.length x.ec
def An.v (x : An) (R : Rs3) : Value := .tuple #[.slice x.a x.L.length x.c, resV R.2.1 x.ta x.tc, .slice x.ea R.2.2.length x.ec]
def An.fs (x : An) (R : Rs3) : List Fact := rowF (pt x.ta R.2.1.l.length) (cellsL R.2.1.l) :: rowF (pt x.ea R.2.2.length) (cellsE R.2.2) :: acsF x.a x.L.length x.L
def Ans (w w' : World) (old : List Fact) (e : Ending) (R : Rs3) : Prop := ∃ x : An, x.ok R ∧ Lay w w' old e (x.v R) (x.fs R)
theorem Ans.more {w w' : World} {old old' : List Fact} {e R} (h : Ans w w' old e R) (k : ∀ ψ ∈ old, ∀ g, ψ.g = some g → ∃ ψ' ∈ old', ψ'.g = some g) : Ans w w' old' e R := by
 obtain ⟨x, h1, h2⟩ := h
 exact ⟨x, h1, h2.more k⟩
section
variable {W : World} {G : Option Nat} {Q : Ending → World → Prop} {ds : List Deferred}
theorem meetAn {f : FuncId} {args : List Sx.T} {l : List Value} {m : M} {k : Value → List Fact → Tree} (R : Rs3) (old : List Fact) (hold : ∀ ψ ∈ old, ψ ∈ m.facts) (hv : valsOf args = some l) (hc : callable Tryz.prog f = true)
  (hC : ∀ β ρ w, Mem W G m β ρ w → Calls Tryz.prog f (List.toArray l) w fun e w' => Ans w w' old e R)
  (h : ∀ x : An, x.ok R → (∀ φ ∈ x.fs R, New W old φ) → (k (x.v R) (x.fs R)).wpD Tryz.prog W G Q ds) : (Tree.call f args m k).wpD Tryz.prog W G Q ds :=
 meetLy (ι := An) (ok := fun x => x.ok R) (v := fun x => x.v R) (fs := fun x => x.fs R) old hold hv hc hC h
end
theorem newO {W : World} {u : Option Addr} {n : Nat} {xs : List Value} (f : Fresh W none u) : ∀ g, (rowF (pt u n) xs).g = some g → W.heap.size ≤ g := fun g hg => by
 by_cases h : n = 0
 ·rw [show pt u n = none from if_pos h] at hg; cases hg
 ·rw [show pt u n = u from if_neg h] at hg
  cases u with
  | none => cases hg
  | some ad => cases hg; exact (f ad rfl).resolve_right (by simp)
def failP (P : List PA) (e : Int) : Rs3 := (P, ⟨e, tx0, [], 0⟩, [])
theorem spl_acc (A B : List Ac) (y : Ac) (u : Option Addr) (cu : Nat) : spl (cellsA (A ++ y :: B)) (A.length * 3 + 2) [.slice u y.n cu] = cellsA ((A ++ [⟨y.s, y.b, u, y.n, cu, y.l⟩]) ++ B) := by
 unfold spl
 rw [cellsA_app, cellsA_app, cellsA_append]
 have h1 : cellsA (y :: B) = y.cs ++ cellsA B := rfl
 have h2 : (cellsA A).length = A.length * 3 := cellsA_length A
 rw [h1, List.take_append, List.drop_append, h2]
 have e1 : (cellsA A).take (A.length * 3 + 2) = cellsA A := List.take_of_length_le (by omega)
 have e2 : (cellsA A).drop (A.length * 3 + 2 + [Value.slice u y.n cu].length) = [] := List.drop_of_length_le (by rw [h2]; simp only [List.length_singleton]; omega)
 rw [e1, e2, show A.length * 3 + 2 - A.length * 3 = 2 by omega, show A.length * 3 + 2 + [Value.slice u y.n cu].length - A.length * 3 = 3 by simp only [List.length_singleton]; omega]
 simp [Ac.cs]
theorem tell (C : Cf) (O : Oq) (L : List Ac) (a : Option Addr) (n c : Nat) (r : Rq) (ta : Option Addr) (tc : Nat) (w : World) (hA : Acs w a n c L) (h1000 : n ≤ 100000) (hst : Sl ta r.l.length tc) (hrt : At w (pt ta r.l.length) (cellsL r.l)) :
  Calls Tryz.prog 111 (List.toArray [askV C a n c O, resV r ta tc]) w fun e w' => Ans w w' [rowF (pt ta r.l.length) (cellsL r.l)] e (L.map acP, r, []) := by
 have hs := hA.1
 have hn := hA.2.1
 have hn63 := hs.le
 refine calls_of_exec (Env.Ok.howD Sxs.env_ok.keeps [(153, .fresh 65 3)]) Tryz.func111 rfl [(7, (line [0, 1, 2, 3, 4], [2]))] (schedQ_ok _ _ (by kernel_rfl)) (rowF (pt ta r.l.length) (cellsL r.l) :: acsF a n L) (fun φ hφ g hg => (List.mem_cons.1 hφ).elim (fun e => by subst e; exact hrt g hg) fun hφ => hA.facts φ hφ g hg) ?_
 conv=>arg 5;whnf
 refine meetM n (cellsA L) rfl (by kernel_rfl) (fun β ρ w' hM' => cloneA L a n c w' hs hn (hM'.at_ (.tail _ (.head _))) (by omega)) ?_
 conv=>arg 5;whnf
 refine loop_ruleE (Env.Ok.howD Sxs.env_ok.keeps [(153, .fresh 65 3)]) [(7, (line [0, 1, 2, 3, 4], [2]))] (schedQ_ok _ _ (by kernel_rfl)) [3, 3] (fun i : Nat × List Ac => i.1 ≤ n ∧ i.2.length = i.1 ∧ i.2.map acP = (L.take i.1).map acP ∧ (∀ x ∈ i.2, x.fit) ∧ (∀ φ ∈ i.2.map acF, ∀ g, φ.g = some g → w.heap.size ≤ g)) (fun i => (⟨[some ([.v (.int .i64 C.sh), .v (.int .i64 C.so), .v (.int .i64 C.hd), .v (.int .i64 C.per), .v (.int .i64 C.bp), .v (.int .i64 C.fd), .v (.int .i64 C.wk), .v (.int .i64 C.rm), .v (.slice a n c), .v (.int .i64 0), .v (.int .i64 O.k), .v (.int .i64 O.s), .v (.int .i64 O.v), .v (.int .i64 O.g), .v (.string O.d)], 124), some ([.v (.int .i64 r.e), .v (.int .i64 r.t.s), .v (.int .i64 r.t.n), .v (.int .i64 r.t.t), .v (.int .i64 r.t.c), .v (.int .i64 r.t.g), .v (.string r.t.d), .v (.slice ta r.l.length tc), .v (.int .i64 r.n)], 34), some ([.v (.int .i64 0), .v (.int .i64 0), .v (.int .i64 0), .v (.int .i64 0), .v (.int .i64 0), .v (.int .i64 0), .v (.string ByteArray.empty), .v (.slice none 0 0), .v (.int .i64 0)], 34)], [some ⟨65, 3, n, cellsA (i.2 ++ L.drop i.1)⟩], rowF (pt ta r.l.length) (cellsL r.l) :: rowF (pt a n) (cellsA L) :: (i.2.map acF ++ L.map acF)⟩, [.any, .any, .p 0 0, .p 1 0, .v (.slice none 0 0), .p 2 0, .v (.slice none 0 0), .r 0, .any, .any, .any, .any, .any, .any, .v (.int .i64 n), .v (.int .i64 i.1), .any, .any, .any, .any, .any, .any, .any, .any, .any, .any, .any, .any, .any, .any, .any])) (fun i => n - i.1) (0, []) ⟨Nat.zero_le _, rfl, rfl, by simp, by simp⟩ ⟨by repeat' first | exact trivial | refine ⟨.inl rfl, ?_⟩ | refine ⟨.inr rfl, ?_⟩, ⟨by repeat' first | exact trivial | refine ⟨.inl rfl, ?_⟩ | refine ⟨.inr rfl, ?_⟩, by repeat' first | exact trivial | refine ⟨.inl rfl, ?_⟩ | refine ⟨.inr rfl, ?_⟩, fun _ h => h⟩, rfl⟩ ?_
 rintro ⟨k, Ls⟩ ⟨hk, hLk, hLm, hLf, hLn⟩
 have hk : k ≤ n := hk
 have hLk : Ls.length = k := hLk
 conv=>arg 5;whnf
 refine wp_br (fun h1 => ?_) (fun h1 => ?_)
 ·have hlt : k < n := by have h3 := of_decide_eq_true (show decide ((k : Int) < (n : Int)) = true from h1); omega
  obtain ⟨y, hy⟩ : ∃ y, L[k]? = some y := ⟨_, List.getElem?_eq_getElem (by omega)⟩
  have hym : y ∈ L := List.mem_of_getElem? hy
  obtain ⟨⟨ys, yn, yl, yd⟩, _⟩ := hA.2.2.2 y hym
  have hdr : L.drop k = y :: L.drop (k + 1) := by
   have hkl : k < L.length := by omega
   rw [List.drop_eq_getElem_cons hkl, (List.getElem?_eq_some_iff.1 hy).2]
  rw [show (k, Ls).2 = Ls from rfl, show (k, Ls).1 = k from rfl, hdr]
  have hyy : (Ls ++ y :: L.drop (k + 1))[k]? = some y := by rw [List.getElem?_append_right (by omega), hLk]; simp
  conv=>arg 5;whnf
  refine wp_must ⟨by omega, by show (k : Int) < (n : Int); omega⟩ ?_
  conv=>arg 5;whnf
  refine ⟨[.slice y.a y.n y.c], rfl, fun j u hu => (by cases j with | zero => (simp at hu; subst hu; exact cellsA_at hyy 2 _ rfl) | succ j => simp at hu), ?_⟩
  conv=>arg 5;whnf
  refine meetO (e := 31) (size := 6) y.n (cellsL y.l) rfl (by kernel_rfl) (fun β ρ w' hM' => clone y.l y.a y.n y.c w' ys yn (hM'.at_ (.tail _ (.tail _ (List.mem_append_right _ (List.mem_map.2 ⟨y, hym, rfl⟩))))) yl) (fun u c_u h_u f_u => ?_)
  conv=>arg 5;whnf
  refine wp_must ⟨by omega, by show (k : Int) < (n : Int); omega⟩ ?_
  have es : spl (cellsA (Ls ++ y :: L.drop (k + 1))) (k * 3 + 2) [.slice u y.n c_u] = cellsA ((Ls ++ [⟨y.s, y.b, u, y.n, c_u, y.l⟩]) ++ L.drop (k + 1)) := by rw [← hLk]; exact spl_acc Ls _ y u c_u
  conv=>arg 5;whnf
  refine wp_must (by show k * 3 + 2 + 1 ≤ (cellsA (Ls ++ y :: L.drop (k + 1))).length; rw [cellsA_length, List.length_append, List.length_cons, hLk]; omega) ?_
  conv=>arg 5;whnf
  refine wp_must ⟨by show -9223372036854775808 ≤ (k : Int) + 1; omega, by show (k : Int) + 1 ≤ 9223372036854775807; omega⟩ ?_
  have hf2 : (⟨y.s, y.b, u, y.n, c_u, y.l⟩ : Ac).fit := ⟨h_u, yn, yl, yd⟩
  conv=>arg 5;whnf
  refine wp_end ⟨(k + 1, Ls ++ [⟨y.s, y.b, u, y.n, c_u, y.l⟩]), ⟨hlt, by rw [List.length_append, hLk]; rfl, by rw [List.map_append, hLm, List.take_add_one, hy, List.map_append]; rfl, fun x hx => (List.mem_append.1 hx).elim (hLf x) (fun h => by rw [List.mem_singleton] at h; subst h; exact hf2), fun φ hφ => by
    rw [List.map_append] at hφ
    rcases List.mem_append.1 hφ with hφ | hφ
    ·exact hLn φ hφ
    ·simp only [List.map_cons, List.map_nil, List.mem_singleton] at hφ
     subst hφ
     intro g hg
     exact newO f_u g hg⟩, ⟨by repeat' first | exact trivial | refine ⟨.inl rfl, ?_⟩ | refine ⟨.inr rfl, ?_⟩, ⟨by repeat' first | exact trivial | refine ⟨.inl rfl, ?_⟩ | refine ⟨.inr rfl, ?_⟩, by simp only []; rw [← es]; repeat' first | exact trivial | refine ⟨.inl rfl, ?_⟩ | refine ⟨.inr rfl, ?_⟩, fun φ hφ => by
   rcases List.mem_cons.1 hφ with rfl | hφ
   ·exact .tail _ (.head _)
   ·rcases List.mem_cons.1 hφ with rfl | hφ
    ·exact .tail _ (.tail _ (.head _))
    ·rcases List.mem_append.1 hφ with hφ | hφ
     ·rw [List.map_append] at hφ
      rcases List.mem_append.1 hφ with hφ | hφ
      ·exact .tail _ (.tail _ (.tail _ (List.mem_append_left _ hφ)))
      ·simp only [List.map_cons, List.map_nil, List.mem_singleton] at hφ
       subst hφ
       exact .head _
     ·exact .tail _ (.tail _ (.tail _ (List.mem_append_right _ hφ)))⟩, rfl⟩, by show n - (k + 1) < n - k; omega⟩
 ·have hkn : k = n := by have h3 := of_decide_eq_false (show decide ((k : Int) < (n : Int)) = false from h1); omega
  have e : L.take k = L := List.take_of_length_le (by omega)
  have e2 : L.drop k = [] := List.drop_of_length_le (by omega)
  rw [show (k, Ls).2 = Ls from rfl, show (k, Ls).1 = k from rfl, e2, List.append_nil]
  rw [e] at hLm
  have hLn2 : n = Ls.length := by omega
  rw [hLn2]
  conv=>arg 5;whnf
  refine wp_share fun u c_u h_u f_u => ?_
  conv=>arg 5;whnf
  refine wp_back fun β ρ w' hM' => ⟨⟨u, c_u, Ls, ta, tc, none, 0⟩, ⟨hLm, hLf, h_u, hst, sl0⟩, rfl, hM'.below, fun φ hφ g hg => ?_⟩
  rcases List.mem_cons.1 hφ with rfl | hφ
  ·exact ⟨.inr ⟨_, .head _, hg⟩, (hM'.fact _ (.tail _ (.head _)) g hg).2⟩
  ·rcases List.mem_cons.1 hφ with rfl | hφ
   ·cases hg
   ·rcases List.mem_cons.1 hφ with rfl | hφ
    ·have := giveF _ hM' (.head _) f_u g hg
     exact ⟨.inl this.1, this.2⟩
    ·exact ⟨.inl (hLn φ hφ g hg), (hM'.fact φ (.tail _ (.tail _ (.tail _ (List.mem_append_left _ hφ)))) g hg).2⟩
end Go.Proofs.YtofpmnkkimgkfaaGreatDoor.pool
namespace Go.Proofs.YtofpmnkkimgkfaaGreatDoor.pool
open Go.RowKit Sx txn queue greedy shard
theorem fail (C : Cf) (O : Oq) (L : List Ac) (a : Option Addr) (n c : Nat) (er : Int) (w : World) (hA : Acs w a n c L) (h1000 : n ≤ 100000) :
  Calls Tryz.prog 60 (List.toArray [askV C a n c O, .int .i64 er]) w fun e w' => Ans w w' [] e (failP (L.map acP) er) := by
 refine calls_of_exec Sxs.env_ok.keeps Tryz.func60 rfl [] (schedQ_ok _ _ (by kernel_rfl)) (acsF a n L) hA.facts ?_
 conv=>arg 5;whnf
 refine meetAn (f := 111) (failP (L.map acP) er) [] (by simp) rfl (by kernel_rfl) (fun β ρ w' hM' => (tell C O L a n c ⟨er, tx0, [], 0⟩ none 0 w' (Mem.acs hA hM' fun φ hφ => hφ) h1000 sl0 (fun g hg => by cases hg)).mono fun e w2 h => h.more (fun ψ hψ g hg => by simp only [List.mem_singleton] at hψ; subst hψ; cases hg)) (fun x hx hnew => ?_)
 conv=>arg 5;whnf
 refine wp_back fun β ρ w' hM' => ⟨x, hx, rfl, hM'.below, fun φ hφ g hg => ⟨hnew φ hφ g hg, (hM'.fact φ (List.mem_append_left _ hφ) g hg).2⟩⟩
theorem put (C : Cf) (O : Oq) (L : List Ac) (a : Option Addr) (n c : Nat) (p : PA) (a0 : Option Addr) (c0 : Nat) (r : Rq) (ta : Option Addr) (tc : Nat) (ev : List Ev) (ea : Option Addr) (ec : Nat) (w : World) (hA : Acs w a n c L) (h1000 : n ≤ 100000)
  (hs0 : Sl a0 p.2.2.length c0) (hl0 : p.2.2.length ≤ 1000000) (hd0 : ∀ t ∈ p.2.2, t.d.size ≤ maxLen) (hr0 : At w (pt a0 p.2.2.length) (cellsL p.2.2)) (hst : Sl ta r.l.length tc) (hrt : At w (pt ta r.l.length) (cellsL r.l)) (hse : Sl ea ev.length ec) (hre : At w (pt ea ev.length) (cellsE ev)) :
  Calls Tryz.prog 155 (List.toArray [askV C a n c O, acc p.1 p.2.1 a0 p.2.2.length c0, resV r ta tc, .slice ea ev.length ec]) w fun e w' => Ans w w' [rowF (pt ta r.l.length) (cellsL r.l), rowF (pt ea ev.length) (cellsE ev)] e (setP (L.map acP) p, r, ev) := by
 have ST := fun w hA hr => set 0 L a n c p.1 p.2.1 p.2.2 a0 p.2.2.length c0 w hA h1000 hs0 rfl hl0 hd0 hr
 have ep : (p.1, p.2.1, p.2.2) = p := rfl
 rw [ep] at ST
 generalize setP (L.map acP) p = sp at *
 refine calls_of_exec Sxs.env_ok.keeps Tryz.func155 rfl [(1, (line [0, 1, 2, 5, 6, 3, 4, 7, 8, 9], [3]))] (schedQ_ok _ _ (by kernel_rfl)) (rowF (pt a0 p.2.2.length) (cellsL p.2.2) :: rowF (pt ta r.l.length) (cellsL r.l) :: rowF (pt ea ev.length) (cellsE ev) :: acsF a n L) (fun φ hφ g hg => (List.mem_cons.1 hφ).elim (fun e => by subst e; exact hr0 g hg) fun hφ => (fun φ hφ g hg => (List.mem_cons.1 hφ).elim (fun e => by subst e; exact hrt g hg) fun hφ => (fun φ hφ g hg => (List.mem_cons.1 hφ).elim (fun e => by subst e; exact hre g hg) fun hφ => hA.facts φ hφ g hg) φ hφ g hg) φ hφ g hg) ?_
 conv=>arg 5;whnf
 refine meetSh (f := 185) sp (nextV 0) rfl (by kernel_rfl) (fun β ρ w' hM' => ST w' (Mem.acs hA hM' fun φ hφ => .tail _ (.tail _ (.tail _ (hφ)))) (hM'.at_ (.head _))) (fun Ls u c_u hLm hLf h_u hnew => ?_)
 conv=>arg 5;whnf
 refine wp_prim (.slice u Ls.length c_u) (fun w => by kernel_rfl) ?_
 conv=>arg 5;whnf
 refine wp_back fun β ρ w' hM' => ⟨⟨u, c_u, Ls, ta, tc, ea, ec⟩, ⟨hLm, hLf, h_u, hst, hse⟩, rfl, hM'.below, fun φ hφ g hg => ?_⟩
 rcases List.mem_cons.1 hφ with rfl | hφ
 ·exact ⟨.inr ⟨_, .head _, hg⟩, (hM'.fact (rowF (pt ta r.l.length) (cellsL r.l)) (.tail _ (List.mem_append_right (List.map acF Ls) (show rowF (pt ta r.l.length) (cellsL r.l) ∈ rowF (pt a0 p.2.2.length) (cellsL p.2.2) :: rowF (pt ta r.l.length) (cellsL r.l) :: rowF (pt ea ev.length) (cellsE ev) :: acsF a n L from .tail _ (.head _)))) g hg).2⟩
 ·rcases List.mem_cons.1 hφ with rfl | hφ
  ·exact ⟨.inr ⟨_, .tail _ (.head _), hg⟩, (hM'.fact (rowF (pt ea ev.length) (cellsE ev)) (.tail _ (List.mem_append_right (List.map acF Ls) (show rowF (pt ea ev.length) (cellsE ev) ∈ rowF (pt a0 p.2.2.length) (cellsL p.2.2) :: rowF (pt ta r.l.length) (cellsL r.l) :: rowF (pt ea ev.length) (cellsE ev) :: acsF a n L from .tail _ (.tail _ (.head _))))) g hg).2⟩
  ·exact ⟨.inl (hnew φ hφ g hg), (hM'.fact φ (List.mem_append_left _ hφ) g hg).2⟩
def evL (κ : Int) (l : List Tx) : List Ev := l.map fun t => (κ, t)
theorem evL_take {κ : Int} {l : List Tx} {k : Nat} {x : Tx} (h : l[k]? = some x) : evL κ (l.take (k + 1)) = evL κ (l.take k) ++ [(κ, x)] := by unfold evL; rw [List.take_add_one, h, List.map_append]; rfl
theorem evL_len (κ : Int) (l : List Tx) : (evL κ l).length = l.length := List.length_map _
theorem became (κ : Int) (l : List Tx) (a : Option Addr) (n c : Nat) (w : World) (hs : Sl a n c) (hn : n = l.length) (hrow : At w (pt a n) (cellsL l)) (hl : n ≤ 1000000) :
  Calls Tryz.prog 156 (List.toArray [.int .i64 κ, .slice a n c]) w fun e w' => ∃ i : One, Sl i.1 (evL κ l).length i.2 ∧ Gives w w' e (.slice i.1 (evL κ l).length i.2) [rowF (pt i.1 (evL κ l).length) (cellsE (evL κ l))] := by
 have hn63 := hs.le
 refine calls_of_exec Sxs.env_ok.keeps Tryz.func156 rfl [] (schedQ_ok _ _ (by kernel_rfl)) [rowF (pt a n) (cellsL l)] (at1 hrow) ?_
 conv=>arg 5;whnf
 refine loop_nil 5 68 8 rfl ?_
 refine loop_ruleE Sxs.env_ok.keeps [] (schedQ_ok _ _ (by kernel_rfl)) [0, 0] (fun k : Nat => k ≤ n) (fun k => (⟨[], [some ⟨68, 8, k, cellsE (evL κ (l.take k))⟩], [rowF (pt a n) (cellsL l)]⟩, [.v (.int .i64 κ), .any, .any, .any, .v (.slice none 0 0), .r 0, .any, .any, .v (.slice a n c), .v (.int .i64 n), .v (.int .i64 k), .any, .any, .any, .any, .any, .any, .any, .any, .any, .any, .any])) (fun k => n - k) 0 (Nat.zero_le _) ⟨by repeat' first | exact trivial | refine ⟨.inl rfl, ?_⟩ | refine ⟨.inr rfl, ?_⟩, ⟨by repeat' first | exact trivial | refine ⟨.inl rfl, ?_⟩ | refine ⟨.inr rfl, ?_⟩, by repeat' first | exact trivial | refine ⟨.inl rfl, ?_⟩ | refine ⟨.inr rfl, ?_⟩, fun _ h => h⟩, rfl⟩ ?_
 intro k hk
 conv=>arg 5;whnf
 refine wp_br (fun h1 => ?_) (fun h1 => ?_)
 ·have hlt : k < n := by have h3 := of_decide_eq_true (show decide ((k : Int) < (n : Int)) = true from h1); omega
  obtain ⟨y, hy⟩ : ∃ y, l[k]? = some y := ⟨_, List.getElem?_eq_getElem (by omega)⟩
  have ec : cellsE (evL κ (l.take (k + 1))) = cellsE (evL κ (l.take k)) ++ evC (κ, y) := by rw [evL_take hy, cellsE_snoc]
  conv=>arg 5;whnf
  refine wp_must ⟨by omega, by show (k : Int) < (n : Int); omega, hs.some hlt⟩ ?_
  conv=>arg 5;whnf
  refine readG Sxs.env_ok (vs := cellsX y) (sz := 6) (k := k) rfl rfl (.head _) hlt (hs.some hlt) (cellsL_at hy) rfl ?_
  conv=>arg 5;whnf
  refine wp_must ⟨by show k + 1 ≤ maxLen; unfold maxLen; omega, by show (k + 1) * 72 ≤ 140737488355328; omega⟩ ?_
  conv=>arg 5;whnf
  refine wp_must ⟨by show -9223372036854775808 ≤ (k : Int) + 1; omega, by show (k : Int) + 1 ≤ 9223372036854775807; omega⟩ ?_
  conv=>arg 5;whnf
  refine wp_end ⟨k + 1, hlt, ⟨by repeat' first | exact trivial | refine ⟨.inl rfl, ?_⟩ | refine ⟨.inr rfl, ?_⟩, ⟨by repeat' first | exact trivial | refine ⟨.inl rfl, ?_⟩ | refine ⟨.inr rfl, ?_⟩, by rw [ec]; repeat' first | exact trivial | refine ⟨.inl rfl, ?_⟩ | refine ⟨.inr rfl, ?_⟩, fun _ h => h⟩, rfl⟩, by show n - (k + 1) < n - k; omega⟩
 ·have hkn : k = n := by have h3 := of_decide_eq_false (show decide ((k : Int) < (n : Int)) = false from h1); omega
  have e : l.take k = l := List.take_of_length_le (by omega)
  rw [e, hkn]
  have el : (evL κ l).length = n := by rw [evL_len]; omega
  rw [el]
  conv=>arg 5;whnf
  refine wp_share fun u c_u h_u f_u => ?_
  conv=>arg 5;whnf
  refine wp_back fun β ρ w' hM' => ⟨(u, c_u), h_u, rfl, hM'.below, fun φ hφ => ?_⟩
  simp only [List.mem_singleton] at hφ
  subst hφ
  exact giveF _ hM' (.head _) f_u
theorem event (κ : Int) (t : Tx) (w : World) :
  Calls Tryz.prog 115 (List.toArray [.int .i64 κ, t.val]) w fun e w' => ∃ i : One, Sl i.1 1 i.2 ∧ Gives w w' e (.slice i.1 1 i.2) [rowF (pt i.1 1) (cellsE [(κ, t)])] := by
 refine calls_of_exec Sxs.env_ok.keeps Tryz.func115 rfl [] (schedQ_ok _ _ (by kernel_rfl)) [] (by simp) ?_
 conv=>arg 5;whnf
 refine wp_share fun u c_u h_u f_u => ?_
 conv=>arg 5;whnf
 refine wp_back fun β ρ w' hM' => ⟨(u, c_u), h_u, rfl, hM'.below, fun φ hφ => ?_⟩
 simp only [List.mem_singleton] at hφ
 subst hφ
 exact giveF _ hM' (.head _) f_u
end Go.Proofs.YtofpmnkkimgkfaaGreatDoor.pool
namespace Go.Proofs.YtofpmnkkimgkfaaGreatDoor.pool
open Go.RowKit Sx txn queue greedy shard
theorem getP_fit {L : List Ac} (h : ∀ x ∈ L, x.fit) (s : Int) : (getP (L.map acP) s).2.2.length ≤ 1000000 ∧ ∀ t ∈ (getP (L.map acP) s).2.2, t.d.size ≤ maxLen := by
 cases e : ofS s L with
 | nil => rw [getP_nil e]; exact ⟨Nat.zero_le _, fun t ht => by cases ht⟩
 | cons x r =>
  rw [getP_cons e]
  have hx : x ∈ L := by
   have : x ∈ ofS s L := by rw [e]; exact .head _
   unfold ofS ofK at this
   exact (List.mem_filter.1 this).1
  exact ⟨(h x hx).2.2.1, (h x hx).2.2.2⟩
theorem more2 {φ : Fact} : ∀ ψ ∈ [rowF (pt none 0) (cellsL []), φ], ∀ g, ψ.g = some g → ∃ ψ' ∈ [φ], ψ'.g = some g := fun ψ hψ g hg => by
 simp only [List.mem_cons, List.not_mem_nil, or_false] at hψ
 rcases hψ with rfl | rfl
 ·cases hg
 ·exact ⟨_, .head _, hg⟩
def dropP (P : List PA) (s v : Int) : Rs3 := if (findV (getP P s).2.2 v).2 = true then (setP P ((getP P s).1, (getP P s).2.1, dropV v (getP P s).2.2), ⟨0, (findV (getP P s).2.2 v).1, [], 0⟩, [(3, (findV (getP P s).2.2 v).1)]) else failP P 7
theorem drop (C : Cf) (O : Oq) (L : List Ac) (a : Option Addr) (n c : Nat) (s v : Int) (w : World) (hA : Acs w a n c L) (h1000 : n ≤ 100000) :
  Calls Tryz.prog 157 (List.toArray [askV C a n c O, .int .i64 s, .int .i64 v]) w fun e w' => Ans w w' [] e (dropP (L.map acP) s v) := by
 have GT := fun w hA => get 0 L a n c s w hA (by omega)
 obtain ⟨hp1, hp2⟩ := getP_fit (fun x hx => (hA.2.2.2 x hx).1) s
 have hR : dropP (L.map acP) s v = if (findV (getP (L.map acP) s).2.2 v).2 = true then (setP (L.map acP) ((getP (L.map acP) s).1, (getP (L.map acP) s).2.1, dropV v (getP (L.map acP) s).2.2), ⟨0, (findV (getP (L.map acP) s).2.2 v).1, [], 0⟩, [(3, (findV (getP (L.map acP) s).2.2 v).1)]) else failP (L.map acP) 7 := rfl
 rw [hR]
 clear hR
 generalize getP (L.map acP) s = p at *
 have FI := fun u c_u w' (h_u : Sl u p.2.2.length c_u) hr => find p.1 p.2.1 p.2.2 u p.2.2.length c_u v w' h_u rfl hr
 have hdl : (dropV v p.2.2).length ≤ 1000000 := Nat.le_trans (List.length_filter_le ..) hp1
 have hdd : ∀ t ∈ dropV v p.2.2, t.d.size ≤ maxLen := fun t ht => hp2 t (List.mem_filter.1 ht).1
 have DR := fun u c_u w' (h_u : Sl u p.2.2.length c_u) hr => queue.drop p.1 p.2.1 p.2.2 u p.2.2.length c_u v w' h_u rfl hr hp1
 generalize dropV v p.2.2 = dl at *
 generalize findV p.2.2 v = q at *
 obtain ⟨t, fd⟩ := q
 refine calls_of_exec Sxs.env_ok.keeps.soon_ Tryz.func157 rfl [(5, (.one 0 (.one 1 (.one 2 (.one 4 (.one 5 (.one 6 (.fork 3 (.one 7 (.one 8 (.one 9 (.one 10 (.one 11 (.one 12 (.one 13 (.one 14 (.one 15 (.done)))))))))) 7 (.one 3 (.one 8 (.one 9 (.one 10 (.one 11 (.one 12 (.one 13 (.one 14 (.one 15 (.done)))))))))))))))), [1]))] (schedQ_ok _ _ (by kernel_rfl)) (acsF a n L) hA.facts ?_
 conv=>arg 5;whnf
 refine meet1F (f := 154) (n := p.2.2.length) (v := fun a1 c1 => acc p.1 p.2.1 a1 p.2.2.length c1) (xs := cellsL p.2.2) rfl (by kernel_rfl) (fun β ρ w' hM' => GT w' (Mem.acs hA hM' fun φ hφ => hφ)) (fun u c_u h_u f_u => ?_)
 conv=>arg 5;whnf
 refine meetc (f := 127) (v := .tuple #[t.val, .bool fd]) rfl (by kernel_rfl) (fun β ρ w' hM' => FI u c_u w' h_u (hM'.at_ (.head _))) ?_
 cases fd with
 | false =>
  rw [if_neg (by simp)]
  conv=>arg 5;whnf
  refine meetAn (f := 60) (failP (L.map acP) (7)) [] (by simp) rfl (by kernel_rfl) (fun β ρ w' hM' => fail C O L a n c (7) w' (Mem.acs hA hM' fun φ hφ => .tail _ (hφ)) h1000) (fun x hx hnew => ?_)
  conv=>arg 5;whnf
  refine wp_back fun β ρ w' hM' => ⟨x, hx, rfl, hM'.below, fun φ hφ g hg => ⟨hnew φ hφ g hg, (hM'.fact φ (List.mem_append_left _ hφ) g hg).2⟩⟩
 | true =>
  rw [if_pos rfl]
  conv=>arg 5;whnf
  refine wp_both ?_ ?_
  ·(conv => arg 5; whnf)
   refine meet1F (f := 129) (n := dl.length) (v := fun a1 c1 => acc p.1 p.2.1 a1 dl.length c1) (xs := cellsL dl) rfl (by kernel_rfl) (fun β ρ w' hM' => DR u c_u w' h_u (hM'.at_ (.head _))) (fun y c_y h_y f_y => ?_)
   conv=>arg 5;whnf
   refine wp_share fun z c_z h_z f_z => ?_
   conv=>arg 5;whnf
   refine meet1F (f := 156) (n := 1) (v := fun a1 c1 => .slice a1 1 c1) (xs := cellsE [(3, t)]) rfl (by kernel_rfl) (fun β ρ w' hM' => became 3 [t] z 1 c_z w' h_z rfl (at_any 1 (hM'.at_ (a := z) (xs := cellsL [t]) (.head _))) (by omega)) (fun b c_b h_b f_b => ?_)
   conv=>arg 5;whnf
   refine meetAn (f := 155) (setP (L.map acP) (p.1, p.2.1, dl), ⟨0, t, [], 0⟩, [(3, t)]) [rowF (pt b 1) (cellsE [(3, t)])] (fun ψ h => by simp only [List.mem_singleton] at h; subst h; exact .head _) rfl (by kernel_rfl) (fun β ρ w' hM' => (put C O L a n c (p.1, p.2.1, dl) y c_y ⟨0, t, [], 0⟩ none 0 [(3, t)] b c_b w' (Mem.acs hA hM' fun φ hφ => .tail _ (.tail _ (.tail _ (.tail _ (hφ))))) h1000 h_y hdl hdd (hM'.at_ (.tail _ (.tail _ (.head _)))) sl0 (fun g hg => by cases hg) h_b (hM'.at_ (.head _))).mono fun e w2 h => h.more more2) (fun x hx hnew => ?_)
   conv=>arg 5;whnf
   refine wp_back fun β ρ w' hM' => ⟨x, hx, rfl, hM'.below, fun φ hφ g hg => ⟨((hnew φ hφ g hg).elim .inl fun ⟨ψ, h1, h2⟩ => by simp only [List.mem_singleton] at h1; subst h1; exact .inl (f_b g h2)), (hM'.fact φ (List.mem_append_left _ hφ) g hg).2⟩⟩
  ·(conv => arg 5; whnf)
   refine wp_share fun z c_z h_z f_z => ?_
   conv=>arg 5;whnf
   refine meet1F (f := 129) (n := dl.length) (v := fun a1 c1 => acc p.1 p.2.1 a1 dl.length c1) (xs := cellsL dl) rfl (by kernel_rfl) (fun β ρ w' hM' => DR u c_u w' h_u (hM'.at_ (.tail _ (.head _)))) (fun y c_y h_y f_y => ?_)
   conv=>arg 5;whnf
   refine meet1F (f := 156) (n := 1) (v := fun a1 c1 => .slice a1 1 c1) (xs := cellsE [(3, t)]) rfl (by kernel_rfl) (fun β ρ w' hM' => became 3 [t] z 1 c_z w' h_z rfl (at_any 1 (hM'.at_ (a := z) (xs := cellsL [t]) (.tail _ (.head _)))) (by omega)) (fun b c_b h_b f_b => ?_)
   conv=>arg 5;whnf
   refine meetAn (f := 155) (setP (L.map acP) (p.1, p.2.1, dl), ⟨0, t, [], 0⟩, [(3, t)]) [rowF (pt b 1) (cellsE [(3, t)])] (fun ψ h => by simp only [List.mem_singleton] at h; subst h; exact .head _) rfl (by kernel_rfl) (fun β ρ w' hM' => (put C O L a n c (p.1, p.2.1, dl) y c_y ⟨0, t, [], 0⟩ none 0 [(3, t)] b c_b w' (Mem.acs hA hM' fun φ hφ => .tail _ (.tail _ (.tail _ (.tail _ (hφ))))) h1000 h_y hdl hdd (hM'.at_ (.tail _ (.head _))) sl0 (fun g hg => by cases hg) h_b (hM'.at_ (.head _))).mono fun e w2 h => h.more more2) (fun x hx hnew => ?_)
   conv=>arg 5;whnf
   refine wp_back fun β ρ w' hM' => ⟨x, hx, rfl, hM'.below, fun φ hφ g hg => ⟨((hnew φ hφ g hg).elim .inl fun ⟨ψ, h1, h2⟩ => by simp only [List.mem_singleton] at h1; subst h1; exact .inl (f_b g h2)), (hM'.fact φ (List.mem_append_left _ hφ) g hg).2⟩⟩
theorem remove (C : Cf) (O : Oq) (L : List Ac) (a : Option Addr) (n c : Nat) (w : World) (hM : Most w) (hA : Acs w a n c L) (h1000 : n ≤ 100000) :
  Calls Tryz.prog 105 (List.toArray [askV C a n c O]) w fun e w' => Ans w w' [] e (dropP (L.map acP) O.s O.v) := by
 refine calls_of_exec Sxs.env_ok.keeps.soon_ Tryz.func105 rfl [] (schedQ_ok _ _ (by kernel_rfl)) (acsF a n L) hA.facts ?_
 conv=>arg 5;whnf
 refine meetAn (f := 157) (dropP (L.map acP) O.s O.v) [] (by simp) rfl (by kernel_rfl) (fun β ρ w' hM' => drop C O L a n c O.s O.v w' (Mem.acs hA hM' fun φ hφ => hφ) h1000) (fun x hx hnew => ?_)
 conv=>arg 5;whnf
 refine wp_back fun β ρ w' hM' => ⟨x, hx, rfl, hM'.below, fun φ hφ g hg => ⟨hnew φ hφ g hg, (hM'.fact φ (List.mem_append_left _ hφ) g hg).2⟩⟩
def getR (P : List PA) (s v : Int) : Rs3 := if (findV (getP P s).2.2 v).2 = true then (P, ⟨0, (findV (getP P s).2.2 v).1, [], 0⟩, []) else failP P 7
theorem get (C : Cf) (O : Oq) (L : List Ac) (a : Option Addr) (n c : Nat) (w : World) (hM : Most w) (hA : Acs w a n c L) (h1000 : n ≤ 100000) :
  Calls Tryz.prog 107 (List.toArray [askV C a n c O]) w fun e w' => Ans w w' [] e (getR (L.map acP) O.s O.v) := by
 have GT := fun w hA => shard.get 0 L a n c O.s w hA (by omega)
 have hR : getR (L.map acP) O.s O.v = if (findV (getP (L.map acP) O.s).2.2 O.v).2 = true then (L.map acP, ⟨0, (findV (getP (L.map acP) O.s).2.2 O.v).1, [], 0⟩, []) else failP (L.map acP) 7 := rfl
 rw [hR]
 clear hR
 generalize getP (L.map acP) O.s = p at *
 have FI := fun u c_u w' (h_u : Sl u p.2.2.length c_u) hr => find p.1 p.2.1 p.2.2 u p.2.2.length c_u O.v w' h_u rfl hr
 generalize findV p.2.2 O.v = q at *
 obtain ⟨t, fd⟩ := q
 refine calls_of_exec Sxs.env_ok.keeps.soon_ Tryz.func107 rfl [(1, (.one 0 (.one 1 (.one 2 (.one 3 (.one 4 (.one 6 (.one 7 (.one 8 (.fork 5 (.fork 9 (.one 10 (.one 11 (.one 12 (.one 13 (.one 14 (.one 15 (.done))))))) 13 (.one 9 (.one 10 (.one 11 (.one 12 (.one 14 (.one 15 (.done)))))))) 13 (.one 5 (.one 9 (.one 10 (.one 11 (.one 12 (.one 14 (.one 15 (.done)))))))))))))))), []))] (schedQ_ok _ _ (by kernel_rfl)) (acsF a n L) hA.facts ?_
 conv=>arg 5;whnf
 refine wp_both ?_ ?_
 all_goals
  conv=>arg 5;whnf
  refine meet1F (f := 154) (n := p.2.2.length) (v := fun a1 c1 => acc p.1 p.2.1 a1 p.2.2.length c1) (xs := cellsL p.2.2) rfl (by kernel_rfl) (fun β ρ w' hM' => GT w' (Mem.acs hA hM' fun φ hφ => hφ)) (fun u c_u h_u f_u => ?_)
  conv=>arg 5;whnf
  try refine wp_both ?_ ?_
  all_goals
   conv=>arg 5;whnf
   refine meetc (f := 127) (v := .tuple #[t.val, .bool fd]) rfl (by kernel_rfl) (fun β ρ w' hM' => FI u c_u w' h_u (hM'.at_ (.head _))) ?_
   cases fd with
   | false =>
    rw [if_neg (by simp)]
    conv=>arg 5;whnf
    refine meetAn (f := 60) (failP (L.map acP) (7)) [] (by simp) rfl (by kernel_rfl) (fun β ρ w' hM' => fail C O L a n c (7) w' (Mem.acs hA hM' fun φ hφ => .tail _ (hφ)) h1000) (fun x hx hnew => ?_)
    conv=>arg 5;whnf
    refine wp_back fun β ρ w' hM' => ⟨x, hx, rfl, hM'.below, fun φ hφ g hg => ⟨hnew φ hφ g hg, (hM'.fact φ (List.mem_append_left _ hφ) g hg).2⟩⟩
   | true =>
    rw [if_pos rfl]
    conv=>arg 5;whnf
    refine meetAn (f := 111) (L.map acP, ⟨0, t, [], 0⟩, []) [] (by simp) rfl (by kernel_rfl) (fun β ρ w' hM' => (tell C O L a n c ⟨0, t, [], 0⟩ none 0 w' (Mem.acs hA hM' fun φ hφ => .tail _ (hφ)) h1000 sl0 (fun g hg => by cases hg)).mono fun e w2 h => h.more (fun ψ hψ g hg => by simp only [List.mem_singleton] at hψ; subst hψ; cases hg)) (fun x hx hnew => ?_)
    conv=>arg 5;whnf
    refine wp_back fun β ρ w' hM' => ⟨x, hx, rfl, hM'.below, fun φ hφ g hg => ⟨hnew φ hφ g hg, (hM'.fact φ (List.mem_append_left _ hφ) g hg).2⟩⟩
theorem stats (C : Cf) (O : Oq) (L : List Ac) (a : Option Addr) (n c : Nat) (w : World) (hM : Most w) (hA : Acs w a n c L) (h1000 : n ≤ 100000) :
  Calls Tryz.prog 108 (List.toArray [askV C a n c O]) w fun e w' => Ans w w' [] e ((L.map acP, ⟨0, tx0, [], slotsA L⟩, [])) := by
 have SL := fun w hM hA => slots 0 L a n c w hM hA (by omega)
 refine calls_of_exec Sxs.env_ok.keeps.soon_ Tryz.func108 rfl [(1, (line [0, 1, 2, 3, 4, 5, 6, 7, 8, 9, 10, 11], [1]))] (schedQ_ok _ _ (by kernel_rfl)) (acsF a n L) hA.facts ?_
 conv=>arg 5;whnf
 refine meetc (f := 70) (v := .int .i64 (slotsA L)) rfl (by kernel_rfl) (fun β ρ w' hM' => SL w' (hM.later hM'.below) (Mem.acs hA hM' fun φ hφ => hφ)) ?_
 conv=>arg 5;whnf
 refine meetAn (f := 111) (L.map acP, ⟨0, tx0, [], slotsA L⟩, []) [] (by simp) rfl (by kernel_rfl) (fun β ρ w' hM' => (tell C O L a n c ⟨0, tx0, [], slotsA L⟩ none 0 w' (Mem.acs hA hM' fun φ hφ => hφ) h1000 sl0 (fun g hg => by cases hg)).mono fun e w2 h => h.more (fun ψ hψ g hg => by simp only [List.mem_singleton] at hψ; subst hψ; cases hg)) (fun x hx hnew => ?_)
 conv=>arg 5;whnf
 refine wp_back fun β ρ w' hM' => ⟨x, hx, rfl, hM'.below, fun φ hφ g hg => ⟨hnew φ hφ g hg, (hM'.fact φ (List.mem_append_left _ hφ) g hg).2⟩⟩
theorem template (C : Cf) (O : Oq) (L : List Ac) (a : Option Addr) (n c : Nat) (w : World) (hM : Most w) (hA : Acs w a n c L) (h1000 : n ≤ 100000) (hG : -9223372036854775808 ≤ O.g ∧ O.g ≤ 9223372036854775807) (hT : (templateV L O.g).length ≤ 1000000) :
  Calls Tryz.prog 109 (List.toArray [askV C a n c O]) w fun e w' => Ans w w' [] e ((L.map acP, ⟨0, tx0, templateV L O.g, 0⟩, [])) := by
 have TM := fun w hM hA => greedy.template L O.g a n c w hM hA (by omega) hG hT
 generalize templateV L O.g = tl at *
 refine calls_of_exec Sxs.env_ok.keeps.soon_ Tryz.func109 rfl [(1, (line [0, 1, 2, 3, 4, 5, 6, 7, 8, 9, 10, 11, 12, 13, 14, 15], [1]))] (schedQ_ok _ _ (by kernel_rfl)) (acsF a n L) hA.facts ?_
 conv=>arg 5;whnf
 refine meet1F (f := 158) (n := tl.length) (v := fun a1 c1 => .slice a1 tl.length c1) (xs := cellsL tl) rfl (by kernel_rfl) (fun β ρ w' hM' => TM w' (hM.later hM'.below) (Mem.acs hA hM' fun φ hφ => hφ)) (fun u c_u h_u f_u => ?_)
 conv=>arg 5;whnf
 refine meetAn (f := 111) (L.map acP, ⟨0, tx0, tl, 0⟩, []) [rowF (pt u tl.length) (cellsL tl)] (fun ψ h => by simp only [List.mem_singleton] at h; subst h; exact .head _) rfl (by kernel_rfl) (fun β ρ w' hM' => tell C O L a n c ⟨0, tx0, tl, 0⟩ u c_u w' (Mem.acs hA hM' fun φ hφ => .tail _ (hφ)) h1000 h_u (hM'.at_ (.head _))) (fun x hx hnew => ?_)
 conv=>arg 5;whnf
 refine wp_back fun β ρ w' hM' => ⟨x, hx, rfl, hM'.below, fun φ hφ g hg => ⟨((hnew φ hφ g hg).elim .inl fun ⟨ψ, h1, h2⟩ => by simp only [List.mem_singleton] at h1; subst h1; exact .inl (f_u g h2)), (hM'.fact φ (List.mem_append_left _ hφ) g hg).2⟩⟩
def evictR (C : Cf) (P : List PA) (t : Tx) : Rs3 := if slotsP P ≤ C.so then failP P 7 else dropP P t.s t.n
theorem evict (C : Cf) (O : Oq) (L : List Ac) (a : Option Addr) (n c : Nat) (w : World) (hM : Most w) (hA : Acs w a n c L) (h1000 : n ≤ 100000) :
  Calls Tryz.prog 110 (List.toArray [askV C a n c O]) w fun e w' => Ans w w' [] e (evictR C (L.map acP) (worstV L).1) := by
 have SL := fun w hM hA => slots 0 L a n c w hM hA (by omega)
 have WO := fun w hM hA => worst L a n c w hM hA h1000
 have hR : evictR C (L.map acP) (worstV L).1 = if slotsA L ≤ C.so then failP (L.map acP) 7 else dropP (L.map acP) (worstV L).1.s (worstV L).1.n := by rw [slotsA_P]; rfl
 rw [hR]
 clear hR
 generalize worstV L = q at *
 obtain ⟨t, fd⟩ := q
 refine calls_of_exec Sxs.env_ok.keeps.soon_ Tryz.func110 rfl [(1, (line [0, 1, 3, 4, 5, 2, 6], []))] (schedQ_ok _ _ (by kernel_rfl)) (acsF a n L) hA.facts ?_
 conv=>arg 5;whnf
 refine meetc (f := 70) (v := .int .i64 (slotsA L)) rfl (by kernel_rfl) (fun β ρ w' hM' => SL w' (hM.later hM'.below) (Mem.acs hA hM' fun φ hφ => hφ)) ?_
 conv=>arg 5;whnf
 refine wp_br (fun h1 => ?_) (fun h1 => ?_)
 ·rw [if_pos (of_decide_eq_true h1)]
  conv=>arg 5;whnf
  refine meetAn (f := 60) (failP (L.map acP) (7)) [] (by simp) rfl (by kernel_rfl) (fun β ρ w' hM' => fail C O L a n c (7) w' (Mem.acs hA hM' fun φ hφ => hφ) h1000) (fun x hx hnew => ?_)
  conv=>arg 5;whnf
  refine wp_back fun β ρ w' hM' => ⟨x, hx, rfl, hM'.below, fun φ hφ g hg => ⟨hnew φ hφ g hg, (hM'.fact φ (List.mem_append_left _ hφ) g hg).2⟩⟩
 ·rw [if_neg (of_decide_eq_false h1)]
  conv=>arg 5;whnf
  refine meetc (f := 159) (v := .tuple #[t.val, .bool fd]) rfl (by kernel_rfl) (fun β ρ w' hM' => WO w' (hM.later hM'.below) (Mem.acs hA hM' fun φ hφ => hφ)) ?_
  conv=>arg 5;whnf
  refine meetAn (f := 157) (dropP (L.map acP) t.s t.n) [] (by simp) rfl (by kernel_rfl) (fun β ρ w' hM' => drop C O L a n c t.s t.n w' (Mem.acs hA hM' fun φ hφ => hφ) h1000) (fun x hx hnew => ?_)
  conv=>arg 5;whnf
  refine wp_back fun β ρ w' hM' => ⟨x, hx, rfl, hM'.below, fun φ hφ g hg => ⟨hnew φ hφ g hg, (hM'.fact φ (List.mem_append_left _ hφ) g hg).2⟩⟩
end Go.Proofs.YtofpmnkkimgkfaaGreatDoor.pool
namespace Go.Proofs.YtofpmnkkimgkfaaGreatDoor.pool
open Go.RowKit Sx txn queue greedy shard
theorem putGo_bd (is : Bool) (t : Tx) : ∀ (l : List Tx) (b : Bool), (putGo is t l b).length ≤ l.length + 1 ∧ (b = true → (putGo is t l b).length ≤ l.length) ∧ ∀ x ∈ putGo is t l b, x ∈ l ∨ x = t
 | [], b => by cases b <;> simp [putGo]
 | x :: l, b => by
  obtain ⟨h1, h2, h3⟩ := putGo_bd is t l true
  obtain ⟨g1, g2, g3⟩ := putGo_bd is t l false
  have h2 := h2 rfl
  unfold putGo
  cases b with
  | true =>
   simp only [Bool.not_true, Bool.false_and, cond_false, List.length_cons]
   refine ⟨by omega, fun _ => by omega, fun y hy => ?_⟩
   rcases List.mem_cons.1 hy with rfl | hy
   ·exact .inl (.head _)
   ·exact (h3 y hy).elim (fun h => .inl (.tail _ h)) .inr
  | false =>
   simp only [Bool.not_false, Bool.true_and]
   cases (x.n == t.n) with
   | true =>
    simp only [cond_true, List.length_cons]
    refine ⟨by omega, fun h => (by cases h), fun y hy => ?_⟩
    rcases List.mem_cons.1 hy with rfl | hy
    ·exact .inr rfl
    ·exact (h3 y hy).elim (fun h => .inl (.tail _ h)) .inr
   | false =>
    cases (!is && decide (x.n > t.n)) with
    | true =>
     simp only [cond_true, cond_false, List.length_cons]
     refine ⟨by omega, fun h => (by cases h), fun y hy => ?_⟩
     rcases List.mem_cons.1 hy with rfl | hy
     ·exact .inr rfl
     ·rcases List.mem_cons.1 hy with rfl | hy
      ·exact .inl (.head _)
      ·exact (h3 y hy).elim (fun h => .inl (.tail _ h)) .inr
    | false =>
     simp only [cond_false, List.length_cons]
     refine ⟨by omega, fun h => (by cases h), fun y hy => ?_⟩
     rcases List.mem_cons.1 hy with rfl | hy
     ·exact .inl (.head _)
     ·exact (g3 y hy).elim (fun h => .inl (.tail _ h)) .inr
theorem putV_bd (t : Tx) (l : List Tx) : (putV t l).length ≤ l.length + 1 ∧ ∀ x ∈ putV t l, x ∈ l ∨ x = t := ⟨(putGo_bd _ t l false).1, (putGo_bd _ t l false).2.2⟩
theorem placeV_ok {s b per : Int} {l : List Tx} {t : Tx} {bump : Int} (h : (placeV s b per l t bump).2 = 0) : checkV s b per l = true ∧ t.ok = true ∧ t.s = s ∧ b ≤ t.n ∧ inB bump 0 100 = true ∧ -13 ≤ (placeV s b per l t bump).1 ∧ (placeV s b per l t bump).1 ≤ 13 := by
 unfold placeV at h ⊢
 cases h1 : (checkV s b per l && t.ok && (t.s == s) && inB bump 0 100) with
 | false => rw [h1] at h; exact absurd h (by simp)
 | true =>
  rw [h1] at h
  simp only [Bool.and_eq_true, beq_iff_eq] at h1
  cases h2 : decide (t.n < b) with
  | true => rw [h2] at h; exact absurd h (by simp)
  | false =>
   rw [h2] at h
   have h3 := of_decide_eq_false h2
   refine ⟨h1.1.1.1, h1.1.1.2, h1.1.2, by omega, h1.2, ?_⟩
   simp only [Bool.not_true, cond_false]
   have hb1 := slotV_bd t
   have hb2 := slotV_bd (findV l t.n).1
   cases (findV l t.n).2 with
   | true =>
    simp only [cond_true]
    unfold replV
    cases (!rz.raiseB (findV l t.n).1.t bump || decide (t.t < rz.raiseV (findV l t.n).1.t bump)) with
    | true => simp
    | false => simp only [cond_false]; omega
   | false =>
    simp only [cond_false]
    cases ((l.length : Int) == per) with
    | true => simp
    | false => simp only [cond_false]; omega
section
variable {P : Program} {W : World} {G : Option Nat} {Q : Ending → World → Prop} {ds : List Deferred}
theorem meet2F {f : FuncId} {args : List Sx.T} {l : List Value} {m : M} {k : Value → List Fact → Tree} {n n2 : Nat} {v : Option Addr → Nat → Option Addr → Nat → Value} {xs ys : List Value} (hv : valsOf args = some l) (hc : callable P f = true)
  (hC : ∀ β ρ w, Mem W G m β ρ w → Calls P f (List.toArray l) w fun e w' => ∃ i : Two, (Sl i.1.1 n i.1.2 ∧ Sl i.2.1 n2 i.2.2) ∧ Gives w w' e (v i.1.1 i.1.2 i.2.1 i.2.2) [rowF (pt i.1.1 n) xs, rowF (pt i.2.1 n2) ys]) (h : ∀ a c a2 c2, Sl a n c → Sl a2 n2 c2 → (∀ φ ∈ [rowF (pt a n) xs, rowF (pt a2 n2) ys], ∀ g, φ.g = some g → W.heap.size ≤ g) → (k (v a c a2 c2) [rowF (pt a n) xs, rowF (pt a2 n2) ys]).wpD P W G Q ds) : (Tree.call f args m k).wpD P W G Q ds :=
 meetR (ι := Two) (ok := fun i => (Sl i.1.1 n i.1.2 ∧ Sl i.2.1 n2 i.2.2) ∧ ∀ φ ∈ [rowF (pt i.1.1 n) xs, rowF (pt i.2.1 n2) ys], ∀ g, φ.g = some g → W.heap.size ≤ g) (v := fun i => v i.1.1 i.1.2 i.2.1 i.2.2) (fs := fun i => [rowF (pt i.1.1 n) xs, rowF (pt i.2.1 n2) ys]) hc (fun β ρ w vs hm hr => by
  rw [valsOf_spec _ _ _ hv hr]
  exact (hC β ρ w hm).mono fun e w' ⟨i, hi, hg⟩ => ⟨i, ⟨hi, fun φ hφ g hgg => Nat.le_trans hm.grown.size (hg.2.2 φ hφ g hgg).1⟩, hg⟩) (fun i hi => h i.1.1 i.1.2 i.2.1 i.2.2 hi.1.1 hi.1.2 hi.2)
end
def addR (C : Cf) (P : List PA) (d : ByteArray) : Rs3 :=
 match dec d.data.toList with
 | none => failP P 2
 | some t =>
  if (placeV (getP P t.s).1 (getP P t.s).2.1 C.per (getP P t.s).2.2 t C.bp).2 = 0 then
   (if C.hd < slotsP P + (placeV (getP P t.s).1 (getP P t.s).2.1 C.per (getP P t.s).2.2 t C.bp).1 then failP P 6
   else (setP P ((getP P t.s).1, (getP P t.s).2.1, putV t (getP P t.s).2.2), ⟨0, tx0, [], 0⟩, [(if (findV (getP P t.s).2.2 t.n).2 = true then 2 else 1, t)]))
  else failP P (placeV (getP P t.s).1 (getP P t.s).2.1 C.per (getP P t.s).2.2 t C.bp).2
theorem addR_none {C : Cf} {P : List PA} {d : ByteArray} (h : dec d.data.toList = none) : addR C P d = failP P 2 := by unfold addR; rw [h]
theorem addR_some {C : Cf} {P : List PA} {d : ByteArray} {t : Tx} (h : dec d.data.toList = some t) : addR C P d = if (placeV (getP P t.s).1 (getP P t.s).2.1 C.per (getP P t.s).2.2 t C.bp).2 = 0 then
   (if C.hd < slotsP P + (placeV (getP P t.s).1 (getP P t.s).2.1 C.per (getP P t.s).2.2 t C.bp).1 then failP P 6
   else (setP P ((getP P t.s).1, (getP P t.s).2.1, putV t (getP P t.s).2.2), ⟨0, tx0, [], 0⟩, [(if (findV (getP P t.s).2.2 t.n).2 = true then 2 else 1, t)]))
  else failP P (placeV (getP P t.s).1 (getP P t.s).2.1 C.per (getP P t.s).2.2 t C.bp).2 := by unfold addR; rw [h]
theorem slotsA_bd {L : List Ac} {n : Nat} (h : ∀ x ∈ L, x.fit) (hn : L.length ≤ n) : 0 ≤ slotsA L ∧ slotsA L ≤ 13000000 * n := by
 have : 0 ≤ slotsA L ∧ slotsA L ≤ 13000000 * L.length := by
  clear hn
  induction L with
  | nil => exact ⟨Int.le_refl _, Int.le_refl _⟩
  | cons x L ih =>
   have hb := slotsL_bd x.l
   have hl := (h x (.head _)).2.2.1
   have := ih fun y hy => h y (.tail _ hy)
   have e : slotsA (x :: L) = slotsL x.l + slotsA L := rfl
   rw [e, List.length_cons]
   push_cast
   omega
 omega
theorem add (C : Cf) (O : Oq) (L : List Ac) (a : Option Addr) (n c : Nat) (w : World) (hM : Most w) (hA : Acs w a n c L) (h1000 : n ≤ 100000) (hd : O.d.size ≤ 1000000) :
  Calls Tryz.prog 104 (List.toArray [askV C a n c O]) w fun e w' => Ans w w' [] e (addR C (L.map acP) O.d) := by
 have hn := hA.2.1
 have DE := fun w hM => decode_any O.d w hM (show O.d.size ≤ maxLen by unfold maxLen; omega)
 have hdt : ∀ t, dec O.d.data.toList = some t → t.d.size ≤ maxLen := fun t ht => by have := (dec_some _ _ ht).1; unfold Tx.ok at this; have := of_decide_eq_true this; unfold maxLen; omega
 have GT := fun s w hA => shard.get 0 L a n c s w hA (by omega)
 have SL := fun w hM hA => slots 0 L a n c w hM hA (by omega)
 have hsb := slotsA_bd (fun x hx => (hA.2.2.2 x hx).1) (Nat.le_of_eq hn.symm)
 have hpf := getP_fit (fun x hx => (hA.2.2.2 x hx).1)
 refine calls_of_exec Sxs.env_ok.keeps.soon_ Tryz.func104 rfl [(8, (line [0, 1, 3, 5, 6, 7, 2, 4, 8], [])), (14, (.one 0 (.one 1 (.one 2 (.one 4 (.one 5 (.one 6 (.fork 3 (.one 7 (.one 8 (.one 9 (.one 10 (.one 11 (.one 12 (.one 13 (.one 14 (.one 15 (.done)))))))))) 7 (.one 3 (.one 8 (.one 9 (.one 10 (.one 11 (.one 12 (.one 13 (.one 14 (.one 15 (.done)))))))))))))))), [1]))] (schedQ_ok _ _ (by kernel_rfl)) (acsF a n L) hA.facts ?_
 cases hD : dec O.d.data.toList with
 | none =>
  rw [addR_none hD]
  rw [hD] at DE
  conv=>arg 5;whnf
  refine meetc (f := 81) (v := retDec none) rfl (by kernel_rfl) (fun β ρ w' hM' => DE w' (hM.later hM'.below)) ?_
  conv=>arg 5;whnf
  refine meetAn (f := 60) (failP (L.map acP) (2)) [] (by simp) rfl (by kernel_rfl) (fun β ρ w' hM' => fail C O L a n c (2) w' (Mem.acs hA hM' fun φ hφ => hφ) h1000) (fun x hx hnew => ?_)
  conv=>arg 5;whnf
  refine wp_back fun β ρ w' hM' => ⟨x, hx, rfl, hM'.below, fun φ hφ g hg => ⟨hnew φ hφ g hg, (hM'.fact φ (List.mem_append_left _ hφ) g hg).2⟩⟩
 | some t =>
  rw [addR_some hD, ← slotsA_P]
  rw [hD] at DE
  have htd := hdt t hD
  have GT := GT t.s
  obtain ⟨hp1, hp2⟩ := hpf t.s
  generalize getP (L.map acP) t.s = p at *
  have PL := fun u c_u w' hM (h_u : Sl u p.2.2.length c_u) hr => place p.1 p.2.1 C.per p.2.2 u p.2.2.length c_u t C.bp w' hM h_u rfl hr hp2 htd
  have hpo := @placeV_ok p.1 p.2.1 C.per p.2.2 t C.bp
  have FI := fun u c_u w' (h_u : Sl u p.2.2.length c_u) hr => find p.1 p.2.1 p.2.2 u p.2.2.length c_u t.n w' h_u rfl hr
  have hpb := putV_bd t p.2.2
  have PU := fun u c_u w' (h_u : Sl u p.2.2.length c_u) hr hl => queue.put p.1 p.2.1 p.2.2 u p.2.2.length c_u t w' h_u rfl hr hl
  generalize placeV p.1 p.2.1 C.per p.2.2 t C.bp = q at *
  obtain ⟨q1, q2⟩ := q
  generalize findV p.2.2 t.n = fq at *
  obtain ⟨ft, fd⟩ := fq
  generalize putV t p.2.2 = pl at *
  conv=>arg 5;whnf
  refine meetc (f := 81) (v := retDec (some t)) rfl (by kernel_rfl) (fun β ρ w' hM' => DE w' (hM.later hM'.below)) ?_
  conv=>arg 5;whnf
  refine meet1F (f := 154) (n := p.2.2.length) (v := fun a1 c1 => acc p.1 p.2.1 a1 p.2.2.length c1) (xs := cellsL p.2.2) rfl (by kernel_rfl) (fun β ρ w' hM' => GT w' (Mem.acs hA hM' fun φ hφ => hφ)) (fun u c_u h_u f_u => ?_)
  conv=>arg 5;whnf
  refine meetc (f := 135) (v := .tuple #[.int .i64 q1, .int .i64 q2]) rfl (by kernel_rfl) (fun β ρ w' hM' => PL u c_u w' (hM.later hM'.below) h_u (hM'.at_ (.head _))) ?_
  conv=>arg 5;whnf
  refine wp_br (fun h1 => ?_) (fun h1 => ?_)
  ·have h2 : ¬ q2 = 0 := fun h => by rw [h] at h1; cases h1
   rw [if_neg h2]
   conv=>arg 5;whnf
   refine meetAn (f := 60) (failP (L.map acP) (q2)) [] (by simp) rfl (by kernel_rfl) (fun β ρ w' hM' => fail C O L a n c (q2) w' (Mem.acs hA hM' fun φ hφ => .tail _ (hφ)) h1000) (fun x hx hnew => ?_)
   conv=>arg 5;whnf
   refine wp_back fun β ρ w' hM' => ⟨x, hx, rfl, hM'.below, fun φ hφ g hg => ⟨hnew φ hφ g hg, (hM'.fact φ (List.mem_append_left _ hφ) g hg).2⟩⟩
  have h2 : q2 = 0 := by have : (!(q2 == 0)) = false := h1; simpa using this
  rw [if_pos h2]
  obtain ⟨k1, k2, k3, k4, k5, k6, k7⟩ := hpo h2
  have hpl : p.2.2.length ≤ 100000 := by
   have k8 := checkV_base k1
   unfold checkV at k1
   simp only [Bool.and_eq_true, inB_iff, decide_eq_true_eq] at k1
   omega
  have hq1 : -13 ≤ q1 := k6
  have hq2 : q1 ≤ 13 := k7
  have hpl1 : pl.length ≤ 1000000 := by omega
  have hpld : ∀ x ∈ pl, x.d.size ≤ maxLen := fun x hx => (hpb.2 x hx).elim (hp2 x) fun h => by rw [h]; exact htd
  conv=>arg 5;whnf
  refine meetc (f := 70) (v := .int .i64 (slotsA L)) rfl (by kernel_rfl) (fun β ρ w' hM' => SL w' (hM.later hM'.below) (Mem.acs hA hM' fun φ hφ => .tail _ (hφ))) ?_
  conv=>arg 5;whnf
  refine wp_must ⟨by omega, by omega⟩ ?_
  conv=>arg 5;whnf
  refine wp_br (fun h3 => ?_) (fun h3 => ?_)
  ·have h4 : C.hd < slotsA L + q1 := of_decide_eq_true h3
   rw [if_pos h4]
   conv=>arg 5;whnf
   refine meetAn (f := 60) (failP (L.map acP) (6)) [] (by simp) rfl (by kernel_rfl) (fun β ρ w' hM' => fail C O L a n c (6) w' (Mem.acs hA hM' fun φ hφ => .tail _ (hφ)) h1000) (fun x hx hnew => ?_)
   conv=>arg 5;whnf
   refine wp_back fun β ρ w' hM' => ⟨x, hx, rfl, hM'.below, fun φ hφ g hg => ⟨hnew φ hφ g hg, (hM'.fact φ (List.mem_append_left _ hφ) g hg).2⟩⟩
  have h4 : ¬ C.hd < slotsA L + q1 := of_decide_eq_false h3
  rw [if_neg h4]
  conv=>arg 5;whnf
  refine meetc (f := 127) (v := .tuple #[ft.val, .bool fd]) rfl (by kernel_rfl) (fun β ρ w' hM' => FI u c_u w' h_u (hM'.at_ (.head _))) ?_
  cases fd with
  | false =>
   rw [show (if (ft, false).2 = true then (2 : Int) else 1) = 1 from rfl]
   conv=>arg 5;whnf
   refine wp_both ?_ ?_
   ·(conv => arg 5; whnf)
    refine meet1F (f := 136) (n := pl.length) (v := fun a1 c1 => acc p.1 p.2.1 a1 pl.length c1) (xs := cellsL pl) rfl (by kernel_rfl) (fun β ρ w' hM' => PU u c_u w' h_u (hM'.at_ (.head _)) hpl) (fun y c_y h_y f_y => ?_)
    conv=>arg 5;whnf
    refine wp_share fun z c_z h_z f_z => ?_
    conv=>arg 5;whnf
    refine meet1F (f := 156) (n := 1) (v := fun a1 c1 => .slice a1 1 c1) (xs := cellsE [(1, t)]) rfl (by kernel_rfl) (fun β ρ w' hM' => became 1 [t] z 1 c_z w' h_z rfl (at_any 1 (hM'.at_ (a := z) (xs := cellsL [t]) (.head _))) (by omega)) (fun b c_b h_b f_b => ?_)
    conv=>arg 5;whnf
    refine meetAn (f := 155) (setP (L.map acP) (p.1, p.2.1, pl), ⟨0, tx0, [], 0⟩, [(1, t)]) [rowF (pt b 1) (cellsE [(1, t)])] (fun ψ h => by simp only [List.mem_singleton] at h; subst h; exact .head _) rfl (by kernel_rfl) (fun β ρ w' hM' => (put C O L a n c (p.1, p.2.1, pl) y c_y ⟨0, tx0, [], 0⟩ none 0 [(1, t)] b c_b w' (Mem.acs hA hM' fun φ hφ => .tail _ (.tail _ (.tail _ (.tail _ (hφ))))) h1000 h_y hpl1 hpld (hM'.at_ (.tail _ (.tail _ (.head _)))) sl0 (fun g hg => by cases hg) h_b (hM'.at_ (.head _))).mono fun e w2 h => h.more more2) (fun x hx hnew => ?_)
    conv=>arg 5;whnf
    refine wp_back fun β ρ w' hM' => ⟨x, hx, rfl, hM'.below, fun φ hφ g hg => ⟨((hnew φ hφ g hg).elim .inl fun ⟨ψ, h1, h2⟩ => by simp only [List.mem_singleton] at h1; subst h1; exact .inl (f_b g h2)), (hM'.fact φ (List.mem_append_left _ hφ) g hg).2⟩⟩
   ·(conv => arg 5; whnf)
    refine wp_share fun z c_z h_z f_z => ?_
    conv=>arg 5;whnf
    refine meet1F (f := 136) (n := pl.length) (v := fun a1 c1 => acc p.1 p.2.1 a1 pl.length c1) (xs := cellsL pl) rfl (by kernel_rfl) (fun β ρ w' hM' => PU u c_u w' h_u (hM'.at_ (.tail _ (.head _))) hpl) (fun y c_y h_y f_y => ?_)
    conv=>arg 5;whnf
    refine meet1F (f := 156) (n := 1) (v := fun a1 c1 => .slice a1 1 c1) (xs := cellsE [(1, t)]) rfl (by kernel_rfl) (fun β ρ w' hM' => became 1 [t] z 1 c_z w' h_z rfl (at_any 1 (hM'.at_ (a := z) (xs := cellsL [t]) (.tail _ (.head _)))) (by omega)) (fun b c_b h_b f_b => ?_)
    conv=>arg 5;whnf
    refine meetAn (f := 155) (setP (L.map acP) (p.1, p.2.1, pl), ⟨0, tx0, [], 0⟩, [(1, t)]) [rowF (pt b 1) (cellsE [(1, t)])] (fun ψ h => by simp only [List.mem_singleton] at h; subst h; exact .head _) rfl (by kernel_rfl) (fun β ρ w' hM' => (put C O L a n c (p.1, p.2.1, pl) y c_y ⟨0, tx0, [], 0⟩ none 0 [(1, t)] b c_b w' (Mem.acs hA hM' fun φ hφ => .tail _ (.tail _ (.tail _ (.tail _ (hφ))))) h1000 h_y hpl1 hpld (hM'.at_ (.tail _ (.head _))) sl0 (fun g hg => by cases hg) h_b (hM'.at_ (.head _))).mono fun e w2 h => h.more more2) (fun x hx hnew => ?_)
    conv=>arg 5;whnf
    refine wp_back fun β ρ w' hM' => ⟨x, hx, rfl, hM'.below, fun φ hφ g hg => ⟨((hnew φ hφ g hg).elim .inl fun ⟨ψ, h1, h2⟩ => by simp only [List.mem_singleton] at h1; subst h1; exact .inl (f_b g h2)), (hM'.fact φ (List.mem_append_left _ hφ) g hg).2⟩⟩
  | true =>
   rw [show (if (ft, true).2 = true then (2 : Int) else 1) = 2 from rfl]
   conv=>arg 5;whnf
   refine wp_both ?_ ?_
   ·(conv => arg 5; whnf)
    refine meet1F (f := 136) (n := pl.length) (v := fun a1 c1 => acc p.1 p.2.1 a1 pl.length c1) (xs := cellsL pl) rfl (by kernel_rfl) (fun β ρ w' hM' => PU u c_u w' h_u (hM'.at_ (.head _)) hpl) (fun y c_y h_y f_y => ?_)
    conv=>arg 5;whnf
    refine wp_share fun z c_z h_z f_z => ?_
    conv=>arg 5;whnf
    refine meet1F (f := 156) (n := 1) (v := fun a1 c1 => .slice a1 1 c1) (xs := cellsE [(2, t)]) rfl (by kernel_rfl) (fun β ρ w' hM' => became 2 [t] z 1 c_z w' h_z rfl (at_any 1 (hM'.at_ (a := z) (xs := cellsL [t]) (.head _))) (by omega)) (fun b c_b h_b f_b => ?_)
    conv=>arg 5;whnf
    refine meetAn (f := 155) (setP (L.map acP) (p.1, p.2.1, pl), ⟨0, tx0, [], 0⟩, [(2, t)]) [rowF (pt b 1) (cellsE [(2, t)])] (fun ψ h => by simp only [List.mem_singleton] at h; subst h; exact .head _) rfl (by kernel_rfl) (fun β ρ w' hM' => (put C O L a n c (p.1, p.2.1, pl) y c_y ⟨0, tx0, [], 0⟩ none 0 [(2, t)] b c_b w' (Mem.acs hA hM' fun φ hφ => .tail _ (.tail _ (.tail _ (.tail _ (hφ))))) h1000 h_y hpl1 hpld (hM'.at_ (.tail _ (.tail _ (.head _)))) sl0 (fun g hg => by cases hg) h_b (hM'.at_ (.head _))).mono fun e w2 h => h.more more2) (fun x hx hnew => ?_)
    conv=>arg 5;whnf
    refine wp_back fun β ρ w' hM' => ⟨x, hx, rfl, hM'.below, fun φ hφ g hg => ⟨((hnew φ hφ g hg).elim .inl fun ⟨ψ, h1, h2⟩ => by simp only [List.mem_singleton] at h1; subst h1; exact .inl (f_b g h2)), (hM'.fact φ (List.mem_append_left _ hφ) g hg).2⟩⟩
   ·(conv => arg 5; whnf)
    refine wp_share fun z c_z h_z f_z => ?_
    conv=>arg 5;whnf
    refine meet1F (f := 136) (n := pl.length) (v := fun a1 c1 => acc p.1 p.2.1 a1 pl.length c1) (xs := cellsL pl) rfl (by kernel_rfl) (fun β ρ w' hM' => PU u c_u w' h_u (hM'.at_ (.tail _ (.head _))) hpl) (fun y c_y h_y f_y => ?_)
    conv=>arg 5;whnf
    refine meet1F (f := 156) (n := 1) (v := fun a1 c1 => .slice a1 1 c1) (xs := cellsE [(2, t)]) rfl (by kernel_rfl) (fun β ρ w' hM' => became 2 [t] z 1 c_z w' h_z rfl (at_any 1 (hM'.at_ (a := z) (xs := cellsL [t]) (.tail _ (.head _)))) (by omega)) (fun b c_b h_b f_b => ?_)
    conv=>arg 5;whnf
    refine meetAn (f := 155) (setP (L.map acP) (p.1, p.2.1, pl), ⟨0, tx0, [], 0⟩, [(2, t)]) [rowF (pt b 1) (cellsE [(2, t)])] (fun ψ h => by simp only [List.mem_singleton] at h; subst h; exact .head _) rfl (by kernel_rfl) (fun β ρ w' hM' => (put C O L a n c (p.1, p.2.1, pl) y c_y ⟨0, tx0, [], 0⟩ none 0 [(2, t)] b c_b w' (Mem.acs hA hM' fun φ hφ => .tail _ (.tail _ (.tail _ (.tail _ (hφ))))) h1000 h_y hpl1 hpld (hM'.at_ (.tail _ (.head _))) sl0 (fun g hg => by cases hg) h_b (hM'.at_ (.head _))).mono fun e w2 h => h.more more2) (fun x hx hnew => ?_)
    conv=>arg 5;whnf
    refine wp_back fun β ρ w' hM' => ⟨x, hx, rfl, hM'.below, fun φ hφ g hg => ⟨((hnew φ hφ g hg).elim .inl fun ⟨ψ, h1, h2⟩ => by simp only [List.mem_singleton] at h1; subst h1; exact .inl (f_b g h2)), (hM'.fact φ (List.mem_append_left _ hφ) g hg).2⟩⟩
def advR (P : List PA) (s y : Int) : Rs3 :=
 if inB s 0 255 = true then
  (if advV (getP P s).2.1 y = 0 then (setP P ((getP P s).1, y, above y (getP P s).2.2), ⟨0, tx0, below y (getP P s).2.2, 0⟩, evL 3 (below y (getP P s).2.2))
  else failP P (advV (getP P s).2.1 y))
 else failP P 1
theorem advance (C : Cf) (O : Oq) (L : List Ac) (a : Option Addr) (n c : Nat) (w : World) (hM : Most w) (hA : Acs w a n c L) (h1000 : n ≤ 100000) :
  Calls Tryz.prog 106 (List.toArray [askV C a n c O]) w fun e w' => Ans w w' [] e (advR (L.map acP) O.s O.v) := by
 have WI := fun w => within O.s 0 255 w
 have GT := fun w hA => shard.get 0 L a n c O.s w hA (by omega)
 obtain ⟨hp1, hp2⟩ := getP_fit (fun x hx => (hA.2.2.2 x hx).1) O.s
 have hR : advR (L.map acP) O.s O.v = if inB O.s 0 255 = true then
  (if advV (getP (L.map acP) O.s).2.1 O.v = 0 then (setP (L.map acP) ((getP (L.map acP) O.s).1, O.v, above O.v (getP (L.map acP) O.s).2.2), ⟨0, tx0, below O.v (getP (L.map acP) O.s).2.2, 0⟩, evL 3 (below O.v (getP (L.map acP) O.s).2.2))
  else failP (L.map acP) (advV (getP (L.map acP) O.s).2.1 O.v))
 else failP (L.map acP) 1 := rfl
 rw [hR]
 clear hR
 generalize inB O.s 0 255 = ib at *
 generalize getP (L.map acP) O.s = p at *
 refine calls_of_exec Sxs.env_ok.keeps.soon_ Tryz.func106 rfl [(3, (.one 0 (.one 1 (.one 2 (.one 3 (.one 4 (.one 6 (.one 7 (.one 8 (.fork 5 (.fork 9 (.one 10 (.one 11 (.one 12 (.one 13 (.one 14 (.one 15 (.one 16 (.one 17 (.done))))))))) 14 (.one 9 (.one 10 (.one 11 (.one 12 (.one 13 (.one 15 (.one 16 (.one 17 (.done)))))))))) 14 (.one 5 (.one 9 (.one 10 (.one 11 (.one 12 (.one 13 (.one 15 (.one 16 (.one 17 (.done)))))))))))))))))), [])), (6, (line [0, 1, 2, 3, 4, 5, 6, 7, 8, 9, 10, 11, 12], [1]))] (schedQ_ok _ _ (by kernel_rfl)) (acsF a n L) hA.facts ?_
 conv=>arg 5;whnf
 refine meetc (f := 67) (v := .bool ib) rfl (by kernel_rfl) (fun β ρ w' hM' => WI w') ?_
 cases ib with
 | false =>
  rw [if_neg (by simp)]
  conv=>arg 5;whnf
  refine meetAn (f := 60) (failP (L.map acP) (1)) [] (by simp) rfl (by kernel_rfl) (fun β ρ w' hM' => fail C O L a n c (1) w' (Mem.acs hA hM' fun φ hφ => hφ) h1000) (fun x hx hnew => ?_)
  conv=>arg 5;whnf
  refine wp_back fun β ρ w' hM' => ⟨x, hx, rfl, hM'.below, fun φ hφ g hg => ⟨hnew φ hφ g hg, (hM'.fact φ (List.mem_append_left _ hφ) g hg).2⟩⟩
 | true =>
  rw [if_pos rfl]
  by_cases hav : advV p.2.1 O.v = 0
  ·rw [if_pos hav]
   have AD := fun u c_u w' (h_u : Sl u p.2.2.length c_u) hr => advance_ok p.1 p.2.1 p.2.2 u p.2.2.length c_u O.v w' h_u rfl hr hp1 hav
   have hal : (above O.v p.2.2).length ≤ 1000000 := Nat.le_trans (List.length_filter_le ..) hp1
   have had : ∀ t ∈ above O.v p.2.2, t.d.size ≤ maxLen := fun t ht => hp2 t (List.mem_filter.1 ht).1
   have hbl : (below O.v p.2.2).length ≤ 1000000 := Nat.le_trans (List.length_filter_le ..) hp1
   generalize above O.v p.2.2 = al at *
   generalize below O.v p.2.2 = bl at *
   conv=>arg 5;whnf
   refine wp_both ?_ ?_
   all_goals
    conv=>arg 5;whnf
    refine meet1F (f := 154) (n := p.2.2.length) (v := fun a1 c1 => acc p.1 p.2.1 a1 p.2.2.length c1) (xs := cellsL p.2.2) rfl (by kernel_rfl) (fun β ρ w' hM' => GT w' (Mem.acs hA hM' fun φ hφ => hφ)) (fun u c_u h_u f_u => ?_)
    conv=>arg 5;whnf
    try refine wp_both ?_ ?_
    all_goals
     conv=>arg 5;whnf
     refine meet2F (f := 137) (n := al.length) (n2 := bl.length) (v := fun a1 c1 a2 c2 => .tuple #[acc p.1 O.v a1 al.length c1, .slice a2 bl.length c2, .int .i64 0]) (xs := cellsL al) (ys := cellsL bl) rfl (by kernel_rfl) (fun β ρ w' hM' => AD u c_u w' h_u (hM'.at_ (.head _))) (fun y c_y z c_z h_y h_z f_yz => ?_)
     conv=>arg 5;whnf
     refine meet1F (f := 156) (n := (evL 3 bl).length) (v := fun a1 c1 => .slice a1 (evL 3 bl).length c1) (xs := cellsE (evL 3 bl)) rfl (by kernel_rfl) (fun β ρ w' hM' => became 3 bl z bl.length c_z w' h_z rfl (hM'.at_ (.tail _ (.head _))) hbl) (fun b c_b h_b f_b => ?_)
     conv=>arg 5;whnf
     refine meetAn (f := 155) (setP (L.map acP) (p.1, O.v, al), ⟨0, tx0, bl, 0⟩, evL 3 bl) [rowF (pt z bl.length) (cellsL bl), rowF (pt b (evL 3 bl).length) (cellsE (evL 3 bl))] (fun ψ h => by simp only [List.mem_cons, List.not_mem_nil, or_false] at h; rcases h with rfl | rfl <;> first | exact .head _ | exact .tail _ (.tail _ (.head _))) rfl (by kernel_rfl) (fun β ρ w' hM' => put C O L a n c (p.1, O.v, al) y c_y ⟨0, tx0, bl, 0⟩ z c_z (evL 3 bl) b c_b w' (Mem.acs hA hM' fun φ hφ => .tail _ (.tail _ (.tail _ (.tail _ (hφ))))) h1000 h_y hal had (hM'.at_ (.tail _ (.head _))) h_z (hM'.at_ (.tail _ (.tail _ (.head _)))) h_b (hM'.at_ (.head _))) (fun x hx hnew => ?_)
     conv=>arg 5;whnf
     refine wp_back fun β ρ w' hM' => ⟨x, hx, rfl, hM'.below, fun φ hφ g hg => ⟨((hnew φ hφ g hg).elim .inl fun ⟨ψ, h1, h2⟩ => by simp only [List.mem_cons, List.not_mem_nil, or_false] at h1; rcases h1 with rfl | rfl <;> first | exact .inl (f_yz _ (.tail _ (.head _)) g h2) | exact .inl (f_b g h2)), (hM'.fact φ (List.mem_append_left _ hφ) g hg).2⟩⟩
  ·rw [if_neg hav]
   have AD := fun u c_u w' (h_u : Sl u p.2.2.length c_u) hr => advance_no p.1 p.2.1 p.2.2 u p.2.2.length c_u O.v w' h_u rfl hr hp1 hav
   generalize advV p.2.1 O.v = av at *
   conv=>arg 5;whnf
   refine wp_both ?_ ?_
   all_goals
    conv=>arg 5;whnf
    refine meet1F (f := 154) (n := p.2.2.length) (v := fun a1 c1 => acc p.1 p.2.1 a1 p.2.2.length c1) (xs := cellsL p.2.2) rfl (by kernel_rfl) (fun β ρ w' hM' => GT w' (Mem.acs hA hM' fun φ hφ => hφ)) (fun u c_u h_u f_u => ?_)
    conv=>arg 5;whnf
    try refine wp_both ?_ ?_
    all_goals
     conv=>arg 5;whnf
     refine meet1F (f := 137) (n := p.2.2.length) (v := fun a1 c1 => .tuple #[acc p.1 p.2.1 a1 p.2.2.length c1, .slice none 0 0, .int .i64 av]) (xs := cellsL p.2.2) rfl (by kernel_rfl) (fun β ρ w' hM' => AD u c_u w' h_u (hM'.at_ (.head _))) (fun y c_y h_y f_y => ?_)
     conv=>arg 5;whnf
     refine wp_br (fun h1 => ?_) (fun h1 => ?_)
     ·(conv => arg 5; whnf)
      refine meetAn (f := 60) (failP (L.map acP) (av)) [] (by simp) rfl (by kernel_rfl) (fun β ρ w' hM' => fail C O L a n c (av) w' (Mem.acs hA hM' fun φ hφ => .tail _ (.tail _ (hφ))) h1000) (fun x hx hnew => ?_)
      conv=>arg 5;whnf
      refine wp_back fun β ρ w' hM' => ⟨x, hx, rfl, hM'.below, fun φ hφ g hg => ⟨hnew φ hφ g hg, (hM'.fact φ (List.mem_append_left _ hφ) g hg).2⟩⟩
     ·have h2 : (!(av == 0)) = false := h1
      exact absurd (by simpa using h2) hav
end Go.Proofs.YtofpmnkkimgkfaaGreatDoor.pool
namespace Go.Proofs.YtofpmnkkimgkfaaGreatDoor.pool
open Go.RowKit Sx txn queue greedy shard
def goodB (per : Int) (x : PA) : Bool := checkV x.1 x.2.1 per x.2.2 && !emptyV x.2.1 x.2.2.length
abbrev Ord (P : List PA) : Prop := P.Pairwise (fun x y => x.1 < y.1)
theorem shOk_iff {P : List PA} {per : Int} : shOk P 0 1 per = true ↔ (∀ x ∈ P, goodB per x = true) ∧ Ord P := by
 unfold shOk
 rw [List.all_eq_true]
 constructor
 ·intro h
  have H : ∀ i x, P[i]? = some x → goodB per x = true ∧ ∀ j y, i = j + 1 → P[j]? = some y → y.1 < x.1 := by
   intro i x hx
   have hi : i < P.length := (List.getElem?_eq_some_iff.1 hx).1
   have := h i (List.mem_range.2 hi)
   cases i with
   | zero => rw [okI_zero1 hx] at this; exact ⟨this, fun j y e => by cases e⟩
   | succ j =>
    have hj : j < P.length := by omega
    rw [okI_succ1 hx (List.getElem?_eq_getElem hj), Bool.and_assoc, Bool.and_eq_true, decide_eq_true_eq] at this
    exact ⟨this.2, fun j' y' e hy' => by cases e; rw [List.getElem?_eq_getElem hj] at hy'; cases hy'; exact this.1⟩
  refine ⟨fun x hx => ?_, ?_⟩
  ·obtain ⟨i, hi⟩ := List.mem_iff_getElem?.1 hx
   exact (H i x hi).1
  ·unfold Ord
   rw [List.pairwise_iff_getElem]
   intro i j hi hj hij
   induction j with
   | zero => omega
   | succ j ih =>
    have h1 := (H (j + 1) P[j + 1] (List.getElem?_eq_getElem hj)).2 j P[j] rfl (List.getElem?_eq_getElem (by omega))
    by_cases e : i = j
    ·subst e; exact h1
    ·exact Int.lt_trans (ih (by omega) (by omega)) h1
 ·rintro ⟨h1, h2⟩ i hi
  rw [List.mem_range] at hi
  unfold Ord at h2
  rw [List.pairwise_iff_getElem] at h2
  cases i with
  | zero => rw [okI_zero1 (List.getElem?_eq_getElem hi)]; exact h1 _ (List.getElem_mem hi)
  | succ j =>
   have hj : j < P.length := by omega
   rw [okI_succ1 (List.getElem?_eq_getElem hi) (List.getElem?_eq_getElem hj), Bool.and_assoc, decide_eq_true (h2 j (j + 1) hj hi (by omega)), Bool.true_and]
   exact h1 _ (List.getElem_mem hi)
theorem pck_iff {C : Cf} {P : List PA} : pckB C P = true ↔ cfgB C = true ∧ (∀ x ∈ P, goodB C.per x = true) ∧ Ord P ∧ slotsP P ≤ C.hd := by
 unfold pckB shCheck
 simp only [Int.le_refl, decide_true, Bool.true_and, show (0 : Int) ≤ 1099511627776 from by decide, Bool.and_eq_true, decide_eq_true_eq, shOk_iff, and_assoc]
theorem good_iff {per : Int} {x : PA} : goodB per x = true ↔ (0 ≤ x.1 ∧ x.1 ≤ 255 ∧ 0 ≤ x.2.1 ∧ x.2.1 ≤ 4294967295 ∧ 1 ≤ per ∧ per ≤ 16 ∧ (x.2.2.length : Int) ≤ per ∧ risesV x.1 x.2.1 x.2.2 = true) ∧ emptyV x.2.1 x.2.2.length = false := by
 unfold goodB checkV
 simp only [Bool.and_eq_true, inB_iff, decide_eq_true_eq, Bool.not_eq_true', and_assoc]
theorem ofK_in {P : List PA} (hp : Ord P) {x : PA} (hx : x ∈ P) : ofK (fun y : PA => y.1) x.1 P = [x] := by
 induction P with
 | nil => cases hx
 | cons y r ih =>
  unfold Ord at hp ih
  rw [List.pairwise_cons] at hp
  unfold ofK at *
  rcases List.mem_cons.1 hx with rfl | hx
  ·rw [List.filter_cons_of_pos (by simp)]
   rw [List.filter_eq_nil_iff.2 (fun z hz => by have := hp.1 z hz; simp; omega)]
  ·have := hp.1 x hx
   rw [List.filter_cons_of_neg (by simp; omega)]
   exact ih hp.2 hx
theorem getP_in {P : List PA} (hp : Ord P) {x : PA} (hx : x ∈ P) : getP P x.1 = x := by unfold getP; rw [ofK_in hp hx]
theorem getP_no {P : List PA} {s : Int} (h : ∀ x ∈ P, x.1 ≠ s) : getP P s = (s, 0, []) := by
 unfold getP
 rw [ofK_none (f := fun y : PA => y.1) h]
theorem getP_or (P : List PA) (s : Int) : (getP P s ∈ P ∧ (getP P s).1 = s) ∨ (getP P s = (s, 0, []) ∧ ∀ x ∈ P, x.1 ≠ s) := by
 unfold getP
 cases h : ofK (fun x : PA => x.1) s P with
 | nil =>
  refine .inr ⟨rfl, fun x hx e => ?_⟩
  unfold ofK at h
  rw [List.filter_eq_nil_iff] at h
  exact h x hx (by simpa using e)
 | cons x r =>
  have hx : x ∈ ofK (fun x : PA => x.1) s P := by rw [h]; exact .head _
  unfold ofK at hx
  rw [List.mem_filter] at hx
  exact .inl ⟨hx.1, by simpa using hx.2⟩
theorem getP_s (P : List PA) (s : Int) : (getP P s).1 = s := (getP_or P s).elim (·.2) (fun h => by rw [h.1])
theorem getP_good {per : Int} {P : List PA} (h : ∀ x ∈ P, goodB per x = true) (s : Int) : 0 ≤ (getP P s).2.1 ∧ risesV s (getP P s).2.1 (getP P s).2.2 = true := by
 rcases getP_or P s with ⟨h1, h2⟩ | ⟨h1, h2⟩
 ·obtain ⟨⟨g1, g2, g3, g4, g5, g6, g7, g8⟩, _⟩ := good_iff.1 (h _ h1)
  rw [h2] at g8
  exact ⟨g3, g8⟩
 ·rw [h1]; exact ⟨Int.le_refl _, rfl⟩
theorem find_self {s b : Int} {t : Tx} : ∀ {l : List Tx} {b : Int}, risesV s b l = true → t ∈ l → findV l t.n = (t, true)
 | [], _, _, h => by cases h
 | x :: l, b, hr, h => by
  obtain ⟨r1, r2, r3, r4⟩ := rises_cons hr
  rw [findV_cons]
  rcases List.mem_cons.1 h with rfl | h
  ·rw [if_pos rfl]
  ·have := (rises_all r4 t h).2.2
   rw [if_neg (by omega)]
   exact find_self (s := s) (b := b) r4 h
end Go.Proofs.YtofpmnkkimgkfaaGreatDoor.pool
namespace Go.Proofs.YtofpmnkkimgkfaaGreatDoor.pool
open Go.RowKit Sx txn queue greedy shard
def waysM (v : Value) : List (Int × Value) := [(0, .func (.func 104) #[v] #[]), (1, .func (.func 105) #[v] #[]), (2, .func (.func 106) #[v] #[]), (3, .func (.func 107) #[v] #[]), (4, .func (.func 108) #[v] #[]), (5, .func (.func 109) #[v] #[]), (6, .func (.func 110) #[v] #[])]
theorem ways (C : Cf) (O : Oq) (a : Option Addr) (n c : Nat) (w : World) :
  Calls Tryz.prog 59 (List.toArray [askV C a n c O]) w fun e w' => ∃ g : Nat, Gives w w' e (.map (some g)) [mapF g (waysM (askV C a n c O))] := by
 refine calls_of_exec Sxs.env_ok.keeps Tryz.func59 rfl [] (schedQ_ok _ _ (by kernel_rfl)) [] (by simp) ?_
 conv=>arg 5;whnf
 refine op_makeMap rfl (fun g hg => ?_)
 conv=>arg 5;whnf
 refine op_insert (g := g) (l := (waysM (askV C a n c O)).take 0) (x := 0) (v := .func (.func 104) #[askV C a n c O] #[]) [mapF g ((waysM (askV C a n c O)).take 1)] rfl rfl rfl rfl Tryz.underlying128 Tryz.underlying3 (.head _) (.inl hg) (fun ψ hψ => by simp only [List.mem_singleton] at hψ; exact .inr hψ) ?_
 conv=>arg 5;whnf
 refine op_insert (g := g) (l := (waysM (askV C a n c O)).take 1) (x := 1) (v := .func (.func 105) #[askV C a n c O] #[]) [mapF g ((waysM (askV C a n c O)).take 2)] rfl rfl rfl rfl Tryz.underlying128 Tryz.underlying3 (.head _) (.inl hg) (fun ψ hψ => by simp only [List.mem_singleton] at hψ; exact .inr hψ) ?_
 conv=>arg 5;whnf
 refine op_insert (g := g) (l := (waysM (askV C a n c O)).take 2) (x := 2) (v := .func (.func 106) #[askV C a n c O] #[]) [mapF g ((waysM (askV C a n c O)).take 3)] rfl rfl rfl rfl Tryz.underlying128 Tryz.underlying3 (.head _) (.inl hg) (fun ψ hψ => by simp only [List.mem_singleton] at hψ; exact .inr hψ) ?_
 conv=>arg 5;whnf
 refine op_insert (g := g) (l := (waysM (askV C a n c O)).take 3) (x := 3) (v := .func (.func 107) #[askV C a n c O] #[]) [mapF g ((waysM (askV C a n c O)).take 4)] rfl rfl rfl rfl Tryz.underlying128 Tryz.underlying3 (.head _) (.inl hg) (fun ψ hψ => by simp only [List.mem_singleton] at hψ; exact .inr hψ) ?_
 conv=>arg 5;whnf
 refine op_insert (g := g) (l := (waysM (askV C a n c O)).take 4) (x := 4) (v := .func (.func 108) #[askV C a n c O] #[]) [mapF g ((waysM (askV C a n c O)).take 5)] rfl rfl rfl rfl Tryz.underlying128 Tryz.underlying3 (.head _) (.inl hg) (fun ψ hψ => by simp only [List.mem_singleton] at hψ; exact .inr hψ) ?_
 conv=>arg 5;whnf
 refine op_insert (g := g) (l := (waysM (askV C a n c O)).take 5) (x := 5) (v := .func (.func 109) #[askV C a n c O] #[]) [mapF g ((waysM (askV C a n c O)).take 6)] rfl rfl rfl rfl Tryz.underlying128 Tryz.underlying3 (.head _) (.inl hg) (fun ψ hψ => by simp only [List.mem_singleton] at hψ; exact .inr hψ) ?_
 conv=>arg 5;whnf
 refine op_insert (g := g) (l := (waysM (askV C a n c O)).take 6) (x := 6) (v := .func (.func 110) #[askV C a n c O] #[]) [mapF g ((waysM (askV C a n c O)).take 7)] rfl rfl rfl rfl Tryz.underlying128 Tryz.underlying3 (.head _) (.inl hg) (fun ψ hψ => by simp only [List.mem_singleton] at hψ; exact .inr hψ) ?_
 conv=>arg 5;whnf
 exact wp_back fun β ρ w' hM' => ⟨g, rfl, hM'.below, fun φ hφ g' hg' => by simp only [List.mem_singleton] at hφ; subst hφ; cases hg'; exact ⟨hg, (hM'.fact _ (.head _) g rfl).2⟩⟩
theorem meetWays {W : World} {G : Option Nat} {Q : Ending → World → Prop} {ds : List Deferred} {args : List Sx.T} {m : M} {k : Value → List Fact → Tree} {C : Cf} {O : Oq} {a : Option Addr} {n c : Nat} (hv : valsOf args = some [askV C a n c O])
  (h : ∀ g, (k (.map (some g)) [mapF g (waysM (askV C a n c O))]).wpD Tryz.prog W G Q ds) : (Tree.call 59 args m k).wpD Tryz.prog W G Q ds :=
 meetR (ι := Nat) (ok := fun _ => True) (v := fun g => .map (some g)) (fs := fun g => [mapF g (waysM (askV C a n c O))]) (by kernel_rfl) (fun β ρ w vs hm hr => by
  rw [valsOf_spec _ _ _ hv hr]
  exact (ways C O a n c w).mono fun e w' ⟨g, hg⟩ => ⟨g, trivial, hg⟩) (fun g _ => h g)
theorem opB_An {W : World} {G : Option Nat} {Q : Ending → World → Prop} {ds : List Deferred} {o : Oper} {m : M} {t : List Sx.T} {k : M → List Sx.T → Sx.T → Tree} {f : Operand} {g : FuncId} {first : Array Value} {args : Array Operand} {tys : Array TypeId} {l : List Value} {old : List Fact} {R : Rs3}
  (ho : o.op = .call ⟨.value f, args, tys⟩) (hf : ev t f = .v (.func (.func g) first #[])) (hv : valsOf (args.toList.map (ev t)) = some l) (hc : callable Tryz.prog g = true) (hold : ∀ ψ ∈ old, ψ ∈ m.facts)
  (hC : ∀ β ρ w, Mem W G m β ρ w → Calls Tryz.prog g (first ++ List.toArray l) w fun e w' => Ans w w' old e R)
  (h : ∀ x : An, x.ok R → (∀ φ ∈ x.fs R, New W old φ) → (k { m with facts := x.fs R ++ m.facts } t (.v (x.v R))).wpD Tryz.prog W G Q ds) : (Tree.op none o m t k).wpD Tryz.prog W G Q ds :=
 op_callB ho hf hv hc fun β ρ w hm => (hC β ρ w hm).mono fun e w' ⟨x, hx, he, hb, hfs⟩ => ⟨x.v R, { m with facts := x.fs R ++ m.facts }, he, (hm.grow hb).learn (x.fs R) (fun φ hφ g hg => by
  obtain ⟨h1, h2⟩ := hfs φ hφ g hg
  exact ⟨(hm.apart (h1.elim (fun h => .inr (.inl h)) fun ⟨ψ, h3, h4⟩ => .inr (.inr ⟨ψ, hold ψ h3, h4⟩))), h2⟩), h x hx (fun φ hφ g hg => (hfs φ hφ g hg).1.elim (fun h => .inl (Nat.le_trans hm.grown.size h)) .inr)⟩
theorem ways_no {v : Value} {k : Int} (h : ¬ (0 ≤ k ∧ k ≤ 6)) : lkM (waysM v) k = none := by
 have h0 : ¬ (0 : Int) = k := by omega
 have h1 : ¬ (1 : Int) = k := by omega
 have h2 : ¬ (2 : Int) = k := by omega
 have h3 : ¬ (3 : Int) = k := by omega
 have h4 : ¬ (4 : Int) = k := by omega
 have h5 : ¬ (5 : Int) = k := by omega
 have h6 : ¬ (6 : Int) = k := by omega
 simp [waysM, lkM, ixM, h0, h1, h2, h3, h4, h5, h6]
def doR (C : Cf) (P : List PA) (wt : Tx) (tl : List Tx) (O : Oq) : Rs3 :=
 if pckB C P = true then
  (if O.k = 0 then addR C P O.d else if O.k = 1 then dropP P O.s O.v else if O.k = 2 then advR P O.s O.v else if O.k = 3 then getR P O.s O.v
  else if O.k = 4 then (P, ⟨0, tx0, [], slotsP P⟩, []) else if O.k = 5 then (P, ⟨0, tx0, tl, 0⟩, []) else if O.k = 6 then evictR C P wt else failP P 1)
 else failP P 1
theorem doR_no {C : Cf} {P : List PA} {wt : Tx} {tl : List Tx} {O : Oq} (h : pckB C P = false) : doR C P wt tl O = failP P 1 := if_neg (by rw [h]; simp)
theorem do_ (C : Cf) (O : Oq) (L : List Ac) (a : Option Addr) (n c : Nat) (w : World) (hM : Most w) (hA : Acs w a n c L) (h1000 : n ≤ 100000) (hd : O.d.size ≤ 1000000) (hG : -9223372036854775808 ≤ O.g ∧ O.g ≤ 9223372036854775807) (hT : (templateV L O.g).length ≤ 1000000) :
  Calls Tryz.prog 16 (List.toArray [C.val, .slice a n c, O.val]) w fun e w' => Ans w w' [] e (doR C (L.map acP) (worstV L).1 (templateV L O.g) O) := by
 have CK := fun w hM hA => pcheck C L a n c w hM hA (by omega)
 refine calls_of_exec Sxs.env_ok.keeps.soon_ Tryz.func16 rfl [(2, (lineN [0, 2, 3, 1, 4, 5, 6, 7, 8, 9] [4], []))] (schedQ_ok _ _ (by kernel_rfl)) (acsF a n L) hA.facts ?_
 conv=>arg 5;whnf
 refine meetWays (C := C) (O := O) (a := a) (n := n) (c := c) rfl (fun g => ?_)
 conv=>arg 5;whnf
 refine peek_lookup (z := .nilFunc) (l := waysM (askV C a n c O)) Tryz.underlying128 Tryz.underlying3 (fun w => by kernel_rfl) (.head _) ?_
 by_cases hin : 0 ≤ O.k ∧ O.k ≤ 6
 ·cases hck : pckB C (L.map acP) with
  | false =>
   rw [hck] at CK
   rw [doR_no hck]
   have hk : ∃ f, lkM (waysM (askV C a n c O)) O.k = some f := by
    obtain h | h | h | h | h | h | h : O.k = 0 ∨ O.k = 1 ∨ O.k = 2 ∨ O.k = 3 ∨ O.k = 4 ∨ O.k = 5 ∨ O.k = 6 := by omega
    all_goals rw [h]; exact ⟨_, rfl⟩
   obtain ⟨f, hf⟩ := hk
   rw [hf]
   conv=>arg 5;whnf
   refine meetc (f := 23) (v := .bool false) rfl (by kernel_rfl) (fun β ρ w' hM' => CK w' (hM.later hM'.below) (Mem.acs hA hM' fun φ hφ => .tail _ hφ)) ?_
   conv=>arg 5;whnf
   refine meetAn (f := 60) (failP (L.map acP) (1)) [] (by simp) rfl (by kernel_rfl) (fun β ρ w' hM' => fail C O L a n c (1) w' (Mem.acs hA hM' fun φ hφ => .tail _ (hφ)) h1000) (fun x hx hnew => ?_)
   conv=>arg 5;whnf
   refine wp_back fun β ρ w' hM' => ⟨x, hx, rfl, hM'.below, fun φ hφ g hg => ⟨hnew φ hφ g hg, (hM'.fact φ (List.mem_append_left _ hφ) g hg).2⟩⟩
  | true =>
   rw [hck] at CK
   have hR : doR C (L.map acP) (worstV L).1 (templateV L O.g) O = (if O.k = 0 then addR C (L.map acP) O.d else if O.k = 1 then dropP (L.map acP) O.s O.v else if O.k = 2 then advR (L.map acP) O.s O.v else if O.k = 3 then getR (L.map acP) O.s O.v else if O.k = 4 then (L.map acP, ⟨0, tx0, [], slotsP (L.map acP)⟩, []) else if O.k = 5 then (L.map acP, ⟨0, tx0, templateV L O.g, 0⟩, []) else if O.k = 6 then evictR C (L.map acP) (worstV L).1 else failP (L.map acP) 1) := if_pos hck
   rw [hR]
   clear hR
   obtain h | h | h | h | h | h | h : O.k = 0 ∨ O.k = 1 ∨ O.k = 2 ∨ O.k = 3 ∨ O.k = 4 ∨ O.k = 5 ∨ O.k = 6 := by omega
   ·rw [show lkM (waysM (askV C a n c O)) O.k = some (.func (.func 104) #[askV C a n c O] #[]) by rw [h]; rfl]
    rw [if_pos h]
    conv=>arg 5;whnf
    refine meetc (f := 23) (v := .bool true) rfl (by kernel_rfl) (fun β ρ w' hM' => CK w' (hM.later hM'.below) (Mem.acs hA hM' fun φ hφ => .tail _ hφ)) ?_
    conv=>arg 5;whnf
    refine opB_An (old := []) (R := addR C (L.map acP) O.d) rfl rfl rfl (by kernel_rfl) (by simp) (fun β ρ w' hM' => add C O L a n c w' (hM.later hM'.below) (Mem.acs hA hM' fun φ hφ => .tail _ hφ) h1000 hd) (fun x hx hnew => ?_)
    conv=>arg 5;whnf
    refine wp_back fun β ρ w' hM' => ⟨x, hx, rfl, hM'.below, fun φ hφ g hg => ⟨hnew φ hφ g hg, (hM'.fact φ (List.mem_append_left _ hφ) g hg).2⟩⟩
   ·rw [show lkM (waysM (askV C a n c O)) O.k = some (.func (.func 105) #[askV C a n c O] #[]) by rw [h]; rfl]
    rw [if_neg (show ¬ O.k = 0 by omega), if_pos h]
    conv=>arg 5;whnf
    refine meetc (f := 23) (v := .bool true) rfl (by kernel_rfl) (fun β ρ w' hM' => CK w' (hM.later hM'.below) (Mem.acs hA hM' fun φ hφ => .tail _ hφ)) ?_
    conv=>arg 5;whnf
    refine opB_An (old := []) (R := dropP (L.map acP) O.s O.v) rfl rfl rfl (by kernel_rfl) (by simp) (fun β ρ w' hM' => remove C O L a n c w' (hM.later hM'.below) (Mem.acs hA hM' fun φ hφ => .tail _ hφ) h1000) (fun x hx hnew => ?_)
    conv=>arg 5;whnf
    refine wp_back fun β ρ w' hM' => ⟨x, hx, rfl, hM'.below, fun φ hφ g hg => ⟨hnew φ hφ g hg, (hM'.fact φ (List.mem_append_left _ hφ) g hg).2⟩⟩
   ·rw [show lkM (waysM (askV C a n c O)) O.k = some (.func (.func 106) #[askV C a n c O] #[]) by rw [h]; rfl]
    rw [if_neg (show ¬ O.k = 0 by omega), if_neg (show ¬ O.k = 1 by omega), if_pos h]
    conv=>arg 5;whnf
    refine meetc (f := 23) (v := .bool true) rfl (by kernel_rfl) (fun β ρ w' hM' => CK w' (hM.later hM'.below) (Mem.acs hA hM' fun φ hφ => .tail _ hφ)) ?_
    conv=>arg 5;whnf
    refine opB_An (old := []) (R := advR (L.map acP) O.s O.v) rfl rfl rfl (by kernel_rfl) (by simp) (fun β ρ w' hM' => advance C O L a n c w' (hM.later hM'.below) (Mem.acs hA hM' fun φ hφ => .tail _ hφ) h1000) (fun x hx hnew => ?_)
    conv=>arg 5;whnf
    refine wp_back fun β ρ w' hM' => ⟨x, hx, rfl, hM'.below, fun φ hφ g hg => ⟨hnew φ hφ g hg, (hM'.fact φ (List.mem_append_left _ hφ) g hg).2⟩⟩
   ·rw [show lkM (waysM (askV C a n c O)) O.k = some (.func (.func 107) #[askV C a n c O] #[]) by rw [h]; rfl]
    rw [if_neg (show ¬ O.k = 0 by omega), if_neg (show ¬ O.k = 1 by omega), if_neg (show ¬ O.k = 2 by omega), if_pos h]
    conv=>arg 5;whnf
    refine meetc (f := 23) (v := .bool true) rfl (by kernel_rfl) (fun β ρ w' hM' => CK w' (hM.later hM'.below) (Mem.acs hA hM' fun φ hφ => .tail _ hφ)) ?_
    conv=>arg 5;whnf
    refine opB_An (old := []) (R := getR (L.map acP) O.s O.v) rfl rfl rfl (by kernel_rfl) (by simp) (fun β ρ w' hM' => get C O L a n c w' (hM.later hM'.below) (Mem.acs hA hM' fun φ hφ => .tail _ hφ) h1000) (fun x hx hnew => ?_)
    conv=>arg 5;whnf
    refine wp_back fun β ρ w' hM' => ⟨x, hx, rfl, hM'.below, fun φ hφ g hg => ⟨hnew φ hφ g hg, (hM'.fact φ (List.mem_append_left _ hφ) g hg).2⟩⟩
   ·rw [show lkM (waysM (askV C a n c O)) O.k = some (.func (.func 108) #[askV C a n c O] #[]) by rw [h]; rfl]
    rw [if_neg (show ¬ O.k = 0 by omega), if_neg (show ¬ O.k = 1 by omega), if_neg (show ¬ O.k = 2 by omega), if_neg (show ¬ O.k = 3 by omega), if_pos h]
    rw [← slotsA_P]
    conv=>arg 5;whnf
    refine meetc (f := 23) (v := .bool true) rfl (by kernel_rfl) (fun β ρ w' hM' => CK w' (hM.later hM'.below) (Mem.acs hA hM' fun φ hφ => .tail _ hφ)) ?_
    conv=>arg 5;whnf
    refine opB_An (old := []) (R := (L.map acP, ⟨0, tx0, [], slotsA L⟩, [])) rfl rfl rfl (by kernel_rfl) (by simp) (fun β ρ w' hM' => stats C O L a n c w' (hM.later hM'.below) (Mem.acs hA hM' fun φ hφ => .tail _ hφ) h1000) (fun x hx hnew => ?_)
    conv=>arg 5;whnf
    refine wp_back fun β ρ w' hM' => ⟨x, hx, rfl, hM'.below, fun φ hφ g hg => ⟨hnew φ hφ g hg, (hM'.fact φ (List.mem_append_left _ hφ) g hg).2⟩⟩
   ·rw [show lkM (waysM (askV C a n c O)) O.k = some (.func (.func 109) #[askV C a n c O] #[]) by rw [h]; rfl]
    rw [if_neg (show ¬ O.k = 0 by omega), if_neg (show ¬ O.k = 1 by omega), if_neg (show ¬ O.k = 2 by omega), if_neg (show ¬ O.k = 3 by omega), if_neg (show ¬ O.k = 4 by omega), if_pos h]
    conv=>arg 5;whnf
    refine meetc (f := 23) (v := .bool true) rfl (by kernel_rfl) (fun β ρ w' hM' => CK w' (hM.later hM'.below) (Mem.acs hA hM' fun φ hφ => .tail _ hφ)) ?_
    conv=>arg 5;whnf
    refine opB_An (old := []) (R := (L.map acP, ⟨0, tx0, templateV L O.g, 0⟩, [])) rfl rfl rfl (by kernel_rfl) (by simp) (fun β ρ w' hM' => template C O L a n c w' (hM.later hM'.below) (Mem.acs hA hM' fun φ hφ => .tail _ hφ) h1000 hG hT) (fun x hx hnew => ?_)
    conv=>arg 5;whnf
    refine wp_back fun β ρ w' hM' => ⟨x, hx, rfl, hM'.below, fun φ hφ g hg => ⟨hnew φ hφ g hg, (hM'.fact φ (List.mem_append_left _ hφ) g hg).2⟩⟩
   ·rw [show lkM (waysM (askV C a n c O)) O.k = some (.func (.func 110) #[askV C a n c O] #[]) by rw [h]; rfl]
    rw [if_neg (show ¬ O.k = 0 by omega), if_neg (show ¬ O.k = 1 by omega), if_neg (show ¬ O.k = 2 by omega), if_neg (show ¬ O.k = 3 by omega), if_neg (show ¬ O.k = 4 by omega), if_neg (show ¬ O.k = 5 by omega), if_pos h]
    conv=>arg 5;whnf
    refine meetc (f := 23) (v := .bool true) rfl (by kernel_rfl) (fun β ρ w' hM' => CK w' (hM.later hM'.below) (Mem.acs hA hM' fun φ hφ => .tail _ hφ)) ?_
    conv=>arg 5;whnf
    refine opB_An (old := []) (R := evictR C (L.map acP) (worstV L).1) rfl rfl rfl (by kernel_rfl) (by simp) (fun β ρ w' hM' => evict C O L a n c w' (hM.later hM'.below) (Mem.acs hA hM' fun φ hφ => .tail _ hφ) h1000) (fun x hx hnew => ?_)
    conv=>arg 5;whnf
    refine wp_back fun β ρ w' hM' => ⟨x, hx, rfl, hM'.below, fun φ hφ g hg => ⟨hnew φ hφ g hg, (hM'.fact φ (List.mem_append_left _ hφ) g hg).2⟩⟩
 ·rw [show lkM (waysM (askV C a n c O)) O.k = none by exact ways_no hin]
  conv=>arg 5;whnf
  refine meetAn (f := 60) (failP (L.map acP) (1)) [] (by simp) rfl (by kernel_rfl) (fun β ρ w' hM' => fail C O L a n c (1) w' (Mem.acs hA hM' fun φ hφ => .tail _ (hφ)) h1000) (fun x hx hnew => ?_)
  have hR : doR C (L.map acP) (worstV L).1 (templateV L O.g) O = failP (L.map acP) 1 := by
   unfold doR
   split
   ·rw [if_neg (by omega), if_neg (by omega), if_neg (by omega), if_neg (by omega), if_neg (by omega), if_neg (by omega), if_neg (by omega)]
   ·rfl
  rw [hR]
  conv=>arg 5;whnf
  refine wp_back fun β ρ w' hM' => ⟨x, hx, rfl, hM'.below, fun φ hφ g hg => ⟨hnew φ hφ g hg, (hM'.fact φ (List.mem_append_left _ hφ) g hg).2⟩⟩
end Go.Proofs.YtofpmnkkimgkfaaGreatDoor.pool
namespace Go.Proofs.YtofpmnkkimgkfaaGreatDoor.pool
open Go.RowKit Sx txn queue greedy shard
theorem rsV_mem {x : Ac} {em : Bool} {L : List Ac} {z : Ac} (h : z ∈ rsV keyA x em L) : z ∈ L ∨ z = x := by
 unfold rsV at h
 split at h
 ·exact rsF_mem h
 ·rcases List.mem_append.1 h with h | h
  ·exact rsF_mem h
  ·exact .inr (by simpa using h)
theorem set_facts {W w' : World} {old : List Fact} {m : M} {β ρ} {L : List Ac} {x : Ac} {em : Bool} (hM' : Mem W none m β ρ w') (hL : ∀ φ ∈ L.map acF, φ ∈ m.facts) (hLo : ∀ φ ∈ L.map acF, φ ∈ old) (hx : acF x ∈ m.facts) (hxn : New W old (acF x)) :
  ∀ φ ∈ (rsV keyA x em L).map acF, ∀ g, φ.g = some g → (W.heap.size ≤ g ∨ ∃ ψ ∈ old, ψ.g = some g) ∧ ∃ o, w'.heap[g]? = some o ∧ φ.holds o := by
 intro φ hφ g hg
 obtain ⟨z, hz, rfl⟩ := List.mem_map.1 hφ
 rcases rsV_mem hz with hz | rfl
 ·have : acF z ∈ L.map acF := List.mem_map.2 ⟨z, hz, rfl⟩
  exact ⟨.inr ⟨_, hLo _ this, hg⟩, (hM'.fact _ (hL _ this) g hg).2⟩
 ·exact ⟨hxn g hg, (hM'.fact _ hx g hg).2⟩
theorem ans_mk {w w' : World} {old : List Fact} {e : Ending} {R : Rs3} (x : An) (hx : x.ok R) (he : e = .returned (x.v R)) (hb : Below w.heap.size w w')
  (h1 : ∀ g, (rowF (pt x.ta R.2.1.l.length) (cellsL R.2.1.l)).g = some g → (w.heap.size ≤ g ∨ ∃ ψ ∈ old, ψ.g = some g) ∧ ∃ o, w'.heap[g]? = some o ∧ (rowF (pt x.ta R.2.1.l.length) (cellsL R.2.1.l)).holds o)
  (h2 : ∀ g, (rowF (pt x.ea R.2.2.length) (cellsE R.2.2)).g = some g → (w.heap.size ≤ g ∨ ∃ ψ ∈ old, ψ.g = some g) ∧ ∃ o, w'.heap[g]? = some o ∧ (rowF (pt x.ea R.2.2.length) (cellsE R.2.2)).holds o)
  (h3 : ∀ g, (rowF (pt x.a x.L.length) (cellsA x.L)).g = some g → (w.heap.size ≤ g ∨ ∃ ψ ∈ old, ψ.g = some g) ∧ ∃ o, w'.heap[g]? = some o ∧ (rowF (pt x.a x.L.length) (cellsA x.L)).holds o)
  (h4 : ∀ φ ∈ x.L.map acF, ∀ g, φ.g = some g → (w.heap.size ≤ g ∨ ∃ ψ ∈ old, ψ.g = some g) ∧ ∃ o, w'.heap[g]? = some o ∧ φ.holds o) : Ans w w' old e R := by
 refine ⟨x, hx, he, hb, fun φ hφ => ?_⟩
 rcases List.mem_cons.1 hφ with rfl | hφ
 ·exact h1
 ·rcases List.mem_cons.1 hφ with rfl | hφ
  ·exact h2
  ·rcases List.mem_cons.1 hφ with rfl | hφ
   ·exact h3
   ·exact h4 φ hφ
theorem rset (L : List Ac) (x : Ac) (a : Option Addr) (n c : Nat) (w : World) (hA : Acs w a n c L) (h1000 : n ≤ 100000) (hb : 0 ≤ x.b) :
  Calls Tryz.prog 114 (List.toArray [.slice a n c, acc x.s x.b x.a x.n x.c]) w fun e w' => ∃ i : One, Sl i.1 (rsV keyA x (emptyV x.b x.n) L).length i.2 ∧ Gives w w' e (.slice i.1 (rsV keyA x (emptyV x.b x.n) L).length i.2) [rowF (pt i.1 (rsV keyA x (emptyV x.b x.n) L).length) (cellsA (rsV keyA x (emptyV x.b x.n) L))] := by
 have ST := fun w hA => rset11 L x 0 a n c w hA h1000 hb
 generalize rsV keyA x (emptyV x.b x.n) L = S at *
 refine calls_of_exec Sxs.env_ok.keeps Tryz.func114 rfl [] (schedQ_ok _ _ (by kernel_rfl)) (acsF a n L) hA.facts ?_
 conv=>arg 5;whnf
 refine meet1F (f := 37) (n := S.length) (v := fun a1 c1 => shV a1 S.length c1 (nextV 0)) (xs := cellsA S) rfl (by kernel_rfl) (fun β ρ w' hM' => ST w' (Mem.acs hA hM' fun φ hφ => hφ)) (fun u c_u h_u f_u => ?_)
 conv=>arg 5;whnf
 refine wp_prim (.slice u S.length c_u) (fun w => by kernel_rfl) ?_
 conv=>arg 5;whnf
 refine wp_back fun β ρ w' hM' => ⟨(u, c_u), h_u, rfl, hM'.below, fun φ hφ g hg => ?_⟩
 simp only [List.mem_singleton] at hφ
 subst hφ
 exact ⟨f_u g hg, (hM'.fact _ (.head _) g hg).2⟩
theorem rdrop (L : List Ac) (t : Tx) (a : Option Addr) (n c : Nat) (w : World) (hA : Acs w a n c L) (h1000 : n ≤ 100000) (hb : 0 ≤ (getP (L.map acP) t.s).2.1) (hf : findV (getP (L.map acP) t.s).2.2 t.n = (t, true)) :
  Calls Tryz.prog 63 (List.toArray [.slice a n c, t.val]) w fun e w' => Ans w w' (acsF a n L) e (dropP (L.map acP) t.s t.n) := by
 have GT := fun w hA => rget L a n c t.s w hA (by omega)
 obtain ⟨hp1, hp2⟩ := getP_fit (fun x hx => (hA.2.2.2 x hx).1) t.s
 have hR : dropP (L.map acP) t.s t.n = (setP (L.map acP) ((getP (L.map acP) t.s).1, (getP (L.map acP) t.s).2.1, dropV t.n (getP (L.map acP) t.s).2.2), ⟨0, t, [], 0⟩, [(3, t)]) := by unfold dropP; rw [hf]; rfl
 rw [hR]
 clear hR hf
 generalize getP (L.map acP) t.s = p at *
 have hdl : (dropV t.n p.2.2).length ≤ 1000000 := Nat.le_trans (List.length_filter_le ..) hp1
 have hdd : ∀ z ∈ dropV t.n p.2.2, z.d.size ≤ maxLen := fun z hz => hp2 z (List.mem_filter.1 hz).1
 have DR := fun u c_u w' (h_u : Sl u p.2.2.length c_u) hr => queue.rdrop p.1 p.2.1 p.2.2 u p.2.2.length c_u t.n w' h_u rfl hr hp1
 generalize dropV t.n p.2.2 = dl at *
 have EV := fun w => event 3 t w
 refine calls_of_exec Sxs.env_ok.keeps.soon_ Tryz.func63 rfl [(1, (line [0, 1, 2, 3, 5, 6, 9, 10, 11, 4, 7, 8, 12, 13, 14, 15], [1]))] (schedQ_ok _ _ (by kernel_rfl)) (acsF a n L) hA.facts ?_
 conv=>arg 5;whnf
 refine meetAc (f := 62) p (acsF a n L) (fun ψ h => h) rfl (by kernel_rfl) (fun β ρ w' hM' => GT w' (Mem.acs hA hM' fun φ hφ => hφ)) (fun u c_u h_u f_u => ?_)
 conv=>arg 5;whnf
 refine meet1F (f := 35) (n := dl.length) (v := fun a1 c1 => acc p.1 p.2.1 a1 dl.length c1) (xs := cellsL dl) rfl (by kernel_rfl) (fun β ρ w' hM' => DR u c_u w' h_u (hM'.at_ (.head _))) (fun y c_y h_y f_y => ?_)
 have hxf : (⟨p.1, p.2.1, y, dl.length, c_y, dl⟩ : Ac).fit := ⟨h_y, rfl, hdl, hdd⟩
 have ST := fun w hA => rset L (⟨p.1, p.2.1, y, dl.length, c_y, dl⟩ : Ac) a n c w hA h1000 hb
 have hSm := rsV_acs (⟨p.1, p.2.1, y, dl.length, c_y, dl⟩ : Ac) L rfl
 have hSx : ∀ z ∈ rsV keyA (⟨p.1, p.2.1, y, dl.length, c_y, dl⟩ : Ac) (emptyV p.2.1 dl.length) L, z.fit := fun z hz => (rsV_mem hz).elim (fun h => (hA.2.2.2 z h).1) fun h => h ▸ hxf
 have hSF := fun {w' : World} {m : M} {β : List Nat} {ρ : List Value} (hM' : Mem w none m β ρ w') h1 h2 h3 h4 => @set_facts w w' (acsF a n L) m β ρ L (⟨p.1, p.2.1, y, dl.length, c_y, dl⟩ : Ac) (emptyV p.2.1 dl.length) hM' h1 h2 h3 h4
 generalize rsV keyA (⟨p.1, p.2.1, y, dl.length, c_y, dl⟩ : Ac) (emptyV p.2.1 dl.length) L = S at *
 conv=>arg 5;whnf
 refine meet1F (f := 114) (n := S.length) (v := fun a1 c1 => .slice a1 S.length c1) (xs := cellsA S) rfl (by kernel_rfl) (fun β ρ w' hM' => ST w' (Mem.acs hA hM' fun φ hφ => .tail _ (.tail _ (hφ)))) (fun q c_q h_q f_q => ?_)
 conv=>arg 5;whnf
 refine meet1F (f := 115) (n := 1) (v := fun a1 c1 => .slice a1 1 c1) (xs := cellsE [(3, t)]) rfl (by kernel_rfl) (fun β ρ w' hM' => EV w') (fun b c_b h_b f_b => ?_)
 conv=>arg 5;whnf
 exact wp_back fun β ρ w' hM' => ans_mk ⟨q, c_q, S, none, 0, b, c_b⟩ ⟨hSm, hSx, h_q, sl0, h_b⟩ rfl hM'.below (fun g hg => by cases hg) (fun g hg => ⟨.inl (f_b g hg), (hM'.fact _ (.head _) g hg).2⟩) (fun g hg => ⟨.inl (f_q g hg), (hM'.fact _ (.tail _ (.head _)) g hg).2⟩) (hSF hM' (fun φ hφ => .tail _ (.tail _ (.tail _ (.tail _ (.tail _ (hφ)))))) (fun φ hφ => .tail _ hφ) (.tail _ (.tail _ (.head _))) (fun g hg => .inl (f_y g hg)))
end Go.Proofs.YtofpmnkkimgkfaaGreatDoor.pool
namespace Go.Proofs.YtofpmnkkimgkfaaGreatDoor.pool
open Go.RowKit Sx txn queue greedy shard
theorem found_at {C : Cf} {P : List PA} (h : pckB C P = true) {s v : Int} {t : Tx} (hf : findV (getP P s).2.2 v = (t, true)) : t.s = s ∧ t.n = v ∧ 0 ≤ (getP P s).2.1 := by
 obtain ⟨_, hg, _, _⟩ := pck_iff.1 h
 obtain ⟨h1, h2⟩ := getP_good hg s
 have h3 := findV_yes (l := (getP P s).2.2) (v := v) (by rw [hf])
 rw [hf] at h3
 exact ⟨(rises_all h2 t h3.1).2.1, h3.2, h1⟩
end Go.Proofs.YtofpmnkkimgkfaaGreatDoor.pool
namespace Go.Proofs.YtofpmnkkimgkfaaGreatDoor.pool
open Go.RowKit Sx txn queue greedy shard
theorem setF_more {a : PA} : ∀ (L A B : List PA), L.Pairwise (fun x y => x.1 < y.1) → (B ≠ [] → ∀ x ∈ L, a.1 < x.1) → L.foldl (setS a) (A, B) = (A ++ L.filter (fun x => decide (x.1 < a.1)), B ++ L.filter (fun x => decide (a.1 < x.1)))
 | [], A, B, _, _ => by simp
 | x :: L, A, B, h, hB => by
  rw [List.pairwise_cons] at h
  rw [List.foldl_cons]
  unfold setS
  by_cases h1 : x.1 = a.1
  ·rw [if_pos h1]
   refine (setF_more L A B h.2 fun hb y hy => hB hb y (List.mem_cons_of_mem _ hy)).trans ?_
   have e1 : decide (x.1 < a.1) = false := by simp; omega
   have e2 : decide (a.1 < x.1) = false := by simp; omega
   rw [List.filter_cons_of_neg (by rw [e1]; simp), List.filter_cons_of_neg (by rw [e2]; simp)]
  ·rw [if_neg h1]
   by_cases h2 : B ≠ [] ∨ a.1 < x.1
   ·rw [if_pos h2]
    have h3 : a.1 < x.1 := h2.elim (fun hb => hB hb x (List.mem_cons_self ..)) id
    refine (setF_more L A (B ++ [x]) h.2 fun _ y hy => Int.lt_trans h3 (h.1 y hy)).trans ?_
    have e1 : decide (x.1 < a.1) = false := by simp; omega
    have e2 : decide (a.1 < x.1) = true := by simp; omega
    rw [List.filter_cons_of_neg (by rw [e1]; simp), List.filter_cons_of_pos (by rw [e2]), List.append_assoc]; rfl
   ·rw [if_neg h2]
    rw [not_or, Decidable.not_not] at h2
    refine (setF_more L (A ++ [x]) B h.2 fun hb => absurd h2.1 hb).trans ?_
    have e1 : decide (x.1 < a.1) = true := by have := h2.2; simp; omega
    have e2 : decide (a.1 < x.1) = false := by have := h2.2; simp; omega
    rw [List.filter_cons_of_pos (by rw [e1]), List.filter_cons_of_neg (by rw [e2]; simp), List.append_assoc]; rfl
theorem setF_rise {L : List PA} (a : PA) (h : L.Pairwise (fun x y => x.1 < y.1)) : setF L a = (L.filter (fun x => decide (x.1 < a.1)), L.filter (fun x => decide (a.1 < x.1))) := by
 have := setF_more (a := a) L [] [] h (fun h => absurd rfl h)
 simpa [setF] using this
theorem setP_mem {L : List PA} (a : PA) (h : L.Pairwise (fun x y => x.1 < y.1)) (x : PA) : x ∈ setP L a ↔ (x ∈ L ∧ x.1 ≠ a.1) ∨ (x = a ∧ emptyV a.2.1 a.2.2.length = false) := by
 unfold setP
 rw [setF_rise a h]
 simp only [List.mem_append, List.mem_filter, decide_eq_true_eq]
 have hm : x ∈ (if emptyV a.2.1 a.2.2.length then [] else [a]) ↔ x = a ∧ emptyV a.2.1 a.2.2.length = false := by
  cases emptyV a.2.1 a.2.2.length <;> simp
 rw [hm]
 constructor
 ·rintro ((⟨h1, h2⟩ | h1) | ⟨h1, h2⟩)
  ·exact .inl ⟨h1, by omega⟩
  ·exact .inr h1
  ·exact .inl ⟨h1, by omega⟩
 ·rintro (⟨h1, h2⟩ | h1)
  ·by_cases h3 : x.1 < a.1
   ·exact .inl (.inl ⟨h1, h3⟩)
   ·exact .inr ⟨h1, by omega⟩
  ·exact .inl (.inr h1)
theorem setP_rise {L : List PA} (a : PA) (h : L.Pairwise (fun x y => x.1 < y.1)) : (setP L a).Pairwise (fun x y => x.1 < y.1) := by
 unfold setP
 rw [setF_rise a h]
 have hm : ∀ x, x ∈ (if emptyV a.2.1 a.2.2.length then [] else [a]) → x = a := by intro x; cases emptyV a.2.1 a.2.2.length <;> simp
 have hp : (if emptyV a.2.1 a.2.2.length then ([] : List PA) else [a]).Pairwise (fun x y => x.1 < y.1) := by cases emptyV a.2.1 a.2.2.length <;> simp
 refine List.pairwise_append.2 ⟨List.pairwise_append.2 ⟨h.sublist List.filter_sublist, hp, fun x hx y hy => ?_⟩, h.sublist List.filter_sublist, fun x hx y hy => ?_⟩
 ·have := hm y hy; subst this
  simpa using (List.mem_filter.1 hx).2
 ·have h2 : a.1 < y.1 := by simpa using (List.mem_filter.1 hy).2
  rcases List.mem_append.1 hx with hx | hx
  ·have h1 : x.1 < a.1 := by simpa using (List.mem_filter.1 hx).2
   omega
  ·have := hm x hx; subst this; exact h2
theorem setP_le (L : List PA) (a : PA) : (setP L a).length ≤ L.length + 1 := by
 unfold setP setF
 have : ∀ (L A B : List PA), ((L.foldl (setS a) (A, B)).1).length + ((L.foldl (setS a) (A, B)).2).length ≤ A.length + B.length + L.length := by
  intro L
  induction L with
  | nil => intro A B; simp
  | cons x L ih =>
   intro A B
   rw [List.foldl_cons]
   unfold setS
   by_cases h1 : x.1 = a.1
   ·rw [if_pos h1]; have := ih A B; unfold setS at this; rw [List.length_cons]; omega
   ·rw [if_neg h1]
    by_cases h2 : B ≠ [] ∨ a.1 < x.1
    ·rw [if_pos h2]; have := ih A (B ++ [x]); unfold setS at this; rw [List.length_append] at this; rw [List.length_cons]; simp at this ⊢; omega
    ·rw [if_neg h2]; have := ih (A ++ [x]) B; unfold setS at this; rw [List.length_append] at this; rw [List.length_cons]; simp at this ⊢; omega
 have h1 := this L [] []
 have h2 : (if emptyV a.2.1 a.2.2.length then ([] : List PA) else [a]).length ≤ 1 := by cases emptyV a.2.1 a.2.2.length <;> simp
 rw [List.length_append, List.length_append]
 simp only [List.length_nil] at h1
 omega
theorem slots_three (P : List PA) (k : Int) : slotsP P = slotsP (P.filter fun x => decide (x.1 < k)) + slotsP (ofK (fun x : PA => x.1) k P) + slotsP (P.filter fun x => decide (k < x.1)) := by
 induction P with
 | nil => rfl
 | cons x P ih =>
  have e : slotsP (x :: P) = slotsL x.2.2 + slotsP P := rfl
  have e1 : ∀ Y : List PA, slotsP (x :: Y) = slotsL x.2.2 + slotsP Y := fun _ => rfl
  unfold ofK at *
  rw [e, ih]
  by_cases h1 : x.1 < k
  ·rw [List.filter_cons_of_pos (by simpa using h1), List.filter_cons_of_neg (by simp; omega), List.filter_cons_of_neg (by simp; omega), e1]; omega
  ·by_cases h2 : x.1 = k
   ·rw [List.filter_cons_of_neg (by simpa using h1), List.filter_cons_of_pos (by simpa using h2), List.filter_cons_of_neg (by simp; omega), e1]; omega
   ·rw [List.filter_cons_of_neg (by simpa using h1), List.filter_cons_of_neg (by simpa using h2), List.filter_cons_of_pos (by simp; omega), e1]; omega
theorem slots_of {P : List PA} (hp : Ord P) (k : Int) : slotsP (ofK (fun x : PA => x.1) k P) = slotsL (getP P k).2.2 := by
 rcases getP_or P k with ⟨h1, h2⟩ | ⟨h1, h2⟩
 ·have := ofK_in hp h1
  rw [h2] at this
  rw [this]
  show slotsL (getP P k).2.2 + 0 = _
  omega
 ·rw [h1, ofK_none (f := fun y : PA => y.1) h2]
  rfl
theorem slotsP_app (X Y : List PA) : slotsP (X ++ Y) = slotsP X + slotsP Y := by simp [slotsP]
theorem slots_set {P : List PA} (hp : Ord P) (a : PA) : slotsP (setP P a) = slotsP P - slotsL (getP P a.1).2.2 + slotsL a.2.2 := by
 have h1 := slots_three P a.1
 rw [slots_of hp] at h1
 unfold setP
 rw [setF_rise a hp, slotsP_app, slotsP_app]
 simp only []
 cases he : emptyV a.2.1 a.2.2.length with
 | true =>
  have : a.2.2 = [] := by unfold emptyV at he; simp only [Bool.and_eq_true, decide_eq_true_eq] at he; exact List.eq_nil_of_length_eq_zero he.2
  rw [this]
  have e : slotsP (if true = true then ([] : List PA) else [a]) = 0 := rfl
  have e2 : slotsL [] = 0 := rfl
  rw [e, e2]
  omega
 | false =>
  have e : slotsP (if false = true then ([] : List PA) else [a]) = slotsL a.2.2 + 0 := rfl
  rw [e]
  omega
theorem set_ok {C : Cf} {P : List PA} (h : pckB C P = true) (a : PA) (ha : checkV a.1 a.2.1 C.per a.2.2 = true) (hs : slotsP P - slotsL (getP P a.1).2.2 + slotsL a.2.2 ≤ C.hd) : pckB C (setP P a) = true := by
 obtain ⟨h1, h2, h3, h4⟩ := pck_iff.1 h
 refine pck_iff.2 ⟨h1, fun x hx => ?_, setP_rise a h3, by rw [slots_set h3]; exact hs⟩
 rcases (setP_mem a h3 x).1 hx with ⟨hx, _⟩ | ⟨rfl, he⟩
 ·exact h2 x hx
 ·unfold goodB; rw [ha, he]; rfl
theorem slotsL_pos (l : List Tx) : 0 ≤ slotsL l := (slotsL_bd l).1
theorem drop_less (v : Int) (l : List Tx) : slotsL (dropV v l) ≤ slotsL l := by
 have := slots_split (fun x => x.n != v) l
 have h2 := slotsL_pos (l.filter fun x => !(x.n != v))
 unfold dropV
 omega
theorem above_less (v : Int) (l : List Tx) : slotsL (above v l) ≤ slotsL l := by
 have := slots_advance v l
 have h2 := slotsL_pos (below v l)
 omega
theorem get_check {C : Cf} {P : List PA} (h : pckB C P = true) {s : Int} (hs : 0 ≤ s ∧ s ≤ 255) : checkV s (getP P s).2.1 C.per (getP P s).2.2 = true := by
 obtain ⟨h1, h2, h3, h4⟩ := pck_iff.1 h
 rcases getP_or P s with ⟨g1, g2⟩ | ⟨g1, g2⟩
 ·have := h2 _ g1
  unfold goodB at this
  rw [Bool.and_eq_true, g2] at this
  exact this.1
 ·rw [g1]
  have := of_decide_eq_true h1
  exact (checkV_iff _ _ _ _).2 ⟨hs, ⟨Int.le_refl _, by show (0 : Int) ≤ 4294967295; decide⟩, ⟨by omega, by omega⟩, by simp; omega, rfl⟩
theorem dropP_ok {C : Cf} {P : List PA} (h : pckB C P = true) (s v : Int) : pckB C (dropP P s v).1 = true := by
 unfold dropP
 split
 ·rename_i hf
  have hs := getP_s P s
  obtain ⟨h1, h2, h3, h4⟩ := pck_iff.1 h
  have hck : checkV (getP P s).1 (getP P s).2.1 C.per (getP P s).2.2 = true := by
   rcases getP_or P s with ⟨g1, g2⟩ | ⟨g1, g2⟩
   ·have := h2 _ g1
    unfold goodB at this
    rw [Bool.and_eq_true] at this
    exact this.1
   ·rw [g1] at hf; cases hf
  refine set_ok h _ (dropped hck) ?_
  show slotsP P - slotsL (getP P (getP P s).1).2.2 + slotsL (dropV v (getP P s).2.2) ≤ C.hd
  rw [hs]
  have := drop_less v (getP P s).2.2
  omega
 ·exact h
theorem addR_ok {C : Cf} {P : List PA} (h : pckB C P = true) (d : ByteArray) : pckB C (addR C P d).1 = true := by
 cases hD : dec d.data.toList with
 | none => rw [addR_none hD]; exact h
 | some t =>
  rw [addR_some hD]
  split
  ·rename_i hq
   split
   ·exact h
   ·rename_i hle
    obtain ⟨p1, p2⟩ := placed hq
    refine set_ok h _ p1 ?_
    show slotsP P - slotsL (getP P (getP P t.s).1).2.2 + slotsL (putV t (getP P t.s).2.2) ≤ C.hd
    rw [getP_s]
    omega
  ·exact h
theorem advR_ok {C : Cf} {P : List PA} (h : pckB C P = true) (s y : Int) : pckB C (advR P s y).1 = true := by
 unfold advR
 split
 ·rename_i hs
  split
  ·rename_i ha
   have hck := get_check h (inB_iff.1 hs)
   have e := getP_s P s
   refine set_ok h _ (by show checkV (getP P s).1 y C.per (above y (getP P s).2.2) = true; rw [e]; exact advanced hck ha) ?_
   show slotsP P - slotsL (getP P (getP P s).1).2.2 + slotsL (above y (getP P s).2.2) ≤ C.hd
   rw [e]
   have := above_less y (getP P s).2.2
   have h4 := (pck_iff.1 h).2.2.2
   omega
  ·exact h
 ·exact h
theorem doR_ok {C : Cf} {P : List PA} (h : pckB C P = true) (wt : Tx) (tl : List Tx) (O : Oq) : pckB C (doR C P wt tl O).1 = true := by
 unfold doR
 rw [if_pos h]
 repeat' split
 ·exact addR_ok h _
 ·exact dropP_ok h _ _
 ·exact advR_ok h _ _
 ·unfold getR; split <;> exact h
 ·exact h
 ·exact h
 ·unfold evictR; split
  ·exact h
  ·exact dropP_ok h _ _
 ·exact h
theorem doR_len (C : Cf) (P : List PA) (wt : Tx) (tl : List Tx) (O : Oq) : (doR C P wt tl O).1.length ≤ P.length + 1 := by
 have hd : ∀ s v, (dropP P s v).1.length ≤ P.length + 1 := fun s v => by
  unfold dropP; split
  ·exact setP_le _ _
  ·exact Nat.le_succ _
 unfold doR
 split
 ·repeat' split
  ·unfold addR; split
   ·exact Nat.le_succ _
   ·split
    ·split
     ·exact Nat.le_succ _
     ·exact setP_le _ _
    ·exact Nat.le_succ _
  ·exact hd _ _
  ·unfold advR; split
   ·split
    ·exact setP_le _ _
    ·exact Nat.le_succ _
   ·exact Nat.le_succ _
  ·unfold getR; split <;> exact Nat.le_succ _
  ·exact Nat.le_succ _
  ·exact Nat.le_succ _
  ·unfold evictR; split
   ·exact Nat.le_succ _
   ·exact hd _ _
  ·exact Nat.le_succ _
 ·exact Nat.le_succ _
end Go.Proofs.YtofpmnkkimgkfaaGreatDoor.pool
namespace Go.Proofs.YtofpmnkkimgkfaaGreatDoor.pool
open Go.RowKit Sx txn queue greedy shard
theorem tplN_le : ∀ (f : Nat) (left : List (List Tx)) (gas : Int), (tplN f left gas).length ≤ sizeL left
 | 0, _, _ => Nat.zero_le _
 | f + 1, left, gas => by
  unfold tplN
  cases h : bestI left left.length with
  | none => exact Nat.zero_le _
  | some q =>
   obtain ⟨_, r, hr⟩ := bestI_some h
   have h1 := size_nil hr
   have h2 := size_tail hr
   simp only []
   split
   ·have := tplN_le f (left.set q.1 []) gas; omega
   ·have := tplN_le f (left.set q.1 (left.getD q.1 []).tail) (gas - q.2.g)
    rw [List.length_cons]; omega
theorem tplV_le (left : List (List Tx)) (gas : Int) : (tplV left gas).length ≤ sizeL left := tplN_le _ _ _
theorem tpl_le {L : List Ac} (h : ∀ x ∈ L, x.l.length ≤ 20) (hn : L.length ≤ 20) (gas : Int) : (templateV L gas).length ≤ 400 := by
 refine Nat.le_trans (tplV_le _ _) ?_
 unfold sizeL
 have h1 : ((firstsV L).map fun x => lineV x.b x.l).length ≤ 20 := by
  rw [List.length_map]
  have := firstsV_le L L.length
  rw [List.take_length] at this
  omega
 refine Nat.le_trans (sum_le (k := 20) fun z hz => ?_) ?_
 ·obtain ⟨r, hr, rfl⟩ := List.mem_map.1 hz
  obtain ⟨x, hx, rfl⟩ := List.mem_map.1 hr
  exact Nat.le_trans (lineV_le _ _) (h x (firstsV_mem hx))
 ·rw [List.length_map]; omega
theorem cellsE_at : ∀ {l : List Ev} {k : Nat} {x : Ev}, l[k]? = some x → ∀ (j : Nat) (u : Value), (evC x)[j]? = some u → (cellsE l)[k * 8 + j]? = some u
 | [], k, x, h => by cases h
 | y :: l, 0, x, h => by
  cases h
  intro j u hu
  have hj : j < (evC y).length := (List.getElem?_eq_some_iff.1 hu).1
  show ((evC y) ++ cellsE l)[0 * 8 + j]? = some u
  rw [show 0 * 8 + j = j by omega, List.getElem?_append_left hj]
  exact hu
 | y :: l, k + 1, x, h => by
  intro j u hu
  have := cellsE_at (l := l) (k := k) (x := x) h j u hu
  show ((evC y) ++ cellsE l)[(k + 1) * 8 + j]? = some u
  have hl : (evC y).length = 8 := rfl
  rw [List.getElem?_append_right (by omega), hl, show (k + 1) * 8 + j - 8 = k * 8 + j by omega]
  exact this
def toA (p : PA) : Ac := ⟨p.1, p.2.1, none, p.2.2.length, 0, p.2.2⟩
theorem firsts_map (f : Ac → Ac) (hf : ∀ x, (f x).s = x.s) (L : List Ac) : firstsV (L.map f) = (firstsV L).map f := by
 unfold firstsV
 have : ∀ (L F : List Ac), (L.map f).foldl frS (F.map f) = (L.foldl frS F).map f := by
  intro L
  induction L with
  | nil => intro F; rfl
  | cons x L ih =>
   intro F
   rw [List.map_cons, List.foldl_cons, List.foldl_cons, ← ih]
   congr 1
   unfold frS
   rw [List.any_map]
   have e : (F.any ((fun y => y.s == (f x).s) ∘ f)) = F.any fun y => y.s == x.s := by congr 1; funext y; simp only [Function.comp]; rw [hf, hf]
   rw [e]
   split
   ·rfl
   ·rw [List.map_append]; rfl
 exact this L []
def tplP (P : List PA) (g : Int) : List Tx := templateV (P.map toA) g
def worP (P : List PA) : Tx := (worstV (P.map toA)).1
theorem tpl_P (L : List Ac) (g : Int) : templateV L g = tplP (L.map acP) g := by
 unfold tplP templateV
 rw [List.map_map, firsts_map (toA ∘ acP) (fun _ => rfl), List.map_map]
 rfl
theorem wor_P (L : List Ac) : (worstV L).1 = worP (L.map acP) := by
 unfold worP worstV lastsV
 rw [List.map_map, List.map_map]
 rfl
def doP (C : Cf) (P : List PA) (O : Oq) : Rs3 := doR C P (worP P) (tplP P O.g) O
theorem do_any (C : Cf) (O : Oq) (L : List Ac) (a : Option Addr) (n c : Nat) (w : World) (hM : Most w) (hA : Acs w a n c L) (h1000 : n ≤ 100000) (hd : O.d.size ≤ 1000000) (hG : -9223372036854775808 ≤ O.g ∧ O.g ≤ 9223372036854775807) (hT : (tplP (L.map acP) O.g).length ≤ 1000000) :
  Calls Tryz.prog 16 (List.toArray [C.val, .slice a n c, O.val]) w fun e w' => Ans w w' [] e (doP C (L.map acP) O) := by
 have := do_ C O L a n c w hM hA h1000 hd hG (by rw [tpl_P]; exact hT)
 rw [tpl_P, wor_P] at this
 exact this
theorem tplP_le {P : List PA} (h : ∀ x ∈ P, x.2.2.length ≤ 20) (hn : P.length ≤ 20) (g : Int) : (tplP P g).length ≤ 400 := tpl_le (fun x hx => by obtain ⟨p, hp, rfl⟩ := List.mem_map.1 hx; exact h p hp) (by rw [List.length_map]; exact hn) g
end Go.Proofs.YtofpmnkkimgkfaaGreatDoor.pool
namespace Go.Proofs.YtofpmnkkimgkfaaGreatDoor.pool
open Go.RowKit Sx txn queue greedy shard
structure Rz where
 r : Rq
 a : Option Addr
 c : Nat
def Rz.cs (z : Rz) : List Value := [.int .i64 z.r.e, .int .i64 z.r.t.s, .int .i64 z.r.t.n, .int .i64 z.r.t.t, .int .i64 z.r.t.c, .int .i64 z.r.t.g, .string z.r.t.d, .slice z.a z.r.l.length z.c, .int .i64 z.r.n]
def cellsZ (l : List Rz) : List Value := l.flatMap Rz.cs
theorem cellsZ_snoc (l : List Rz) (z : Rz) : cellsZ (l ++ [z]) = cellsZ l ++ z.cs := by simp [cellsZ]
def rzF (z : Rz) : Fact := rowF (pt z.a z.r.l.length) (cellsL z.r.l)
def Oq.cs (O : Oq) : List Value := [.int .i64 O.k, .int .i64 O.s, .int .i64 O.v, .int .i64 O.g, .string O.d]
def cellsO (l : List Oq) : List Value := l.flatMap Oq.cs
theorem cellsO_snoc (l : List Oq) (q : Oq) : cellsO (l ++ [q]) = cellsO l ++ q.cs := by simp [cellsO]
theorem cellsO_at : ∀ {l : List Oq} {k : Nat} {x : Oq}, l[k]? = some x → ∀ (j : Nat) (u : Value), x.cs[j]? = some u → (cellsO l)[k * 5 + j]? = some u
 | [], k, x, h => by cases h
 | y :: l, 0, x, h => by
  cases h
  intro j u hu
  have hj : j < y.cs.length := (List.getElem?_eq_some_iff.1 hu).1
  show (y.cs ++ cellsO l)[0 * 5 + j]? = some u
  rw [show 0 * 5 + j = j by omega, List.getElem?_append_left hj]
  exact hu
 | y :: l, k + 1, x, h => by
  intro j u hu
  have := cellsO_at (l := l) (k := k) (x := x) h j u hu
  show (y.cs ++ cellsO l)[(k + 1) * 5 + j]? = some u
  have hl : y.cs.length = 5 := rfl
  rw [List.getElem?_append_right (by omega), hl, show (k + 1) * 5 + j - 5 = k * 5 + j by omega]
  exact this
abbrev St3 := List PA × List Rq × List Ev
def stP (C : Cf) (st : St3) (O : Oq) : St3 := ((doP C st.1 O).1, st.2.1 ++ [(doP C st.1 O).2.1], st.2.2 ++ (doP C st.1 O).2.2)
def runP (C : Cf) (l : List Oq) : St3 := l.foldl (stP C) ([], [], [])
theorem runP_snoc (C : Cf) (l : List Oq) (O : Oq) : runP C (l ++ [O]) = stP C (runP C l) O := by unfold runP; rw [List.foldl_append]; rfl
theorem runP_take {C : Cf} {l : List Oq} {k : Nat} {O : Oq} (h : l[k]? = some O) : runP C (l.take (k + 1)) = stP C (runP C (l.take k)) O := by rw [List.take_add_one, h]; exact runP_snoc _ _ _
theorem get_few {C : Cf} {P : List PA} (h : P = [] ∨ pckB C P = true) : (∀ x ∈ P, x.2.2.length ≤ 16) ∧ ∀ s, (getP P s).2.2.length ≤ 16 := by
 have h1 : ∀ x ∈ P, x.2.2.length ≤ 16 := fun x hx => by
  rcases h with rfl | h
  ·cases hx
  ·obtain ⟨⟨g1, g2, g3, g4, g5, g6, g7, g8⟩, _⟩ := good_iff.1 ((pck_iff.1 h).2.1 x hx)
   omega
 refine ⟨h1, fun s => ?_⟩
 rcases getP_or P s with ⟨g1, _⟩ | ⟨g1, _⟩
 ·exact h1 _ g1
 ·rw [g1]; exact Nat.zero_le _
theorem doR_ev {C : Cf} {P : List PA} (h : ∀ s, (getP P s).2.2.length ≤ 16) (wt : Tx) (tl : List Tx) (O : Oq) : (doR C P wt tl O).2.2.length ≤ 16 := by
 have hd : ∀ s v, (dropP P s v).2.2.length ≤ 16 := fun s v => by
  unfold dropP; split
  ·show 1 ≤ 16; omega
  ·exact Nat.zero_le _
 unfold doR
 split
 ·repeat' split
  ·unfold addR; split
   ·exact Nat.zero_le _
   ·split
    ·split
     ·exact Nat.zero_le _
     ·show 1 ≤ 16; omega
    ·exact Nat.zero_le _
  ·exact hd _ _
  ·unfold advR; split
   ·split
    ·show (evL 3 _).length ≤ 16
     rw [evL_len]
     exact Nat.le_trans (List.length_filter_le ..) (h _)
    ·exact Nat.zero_le _
   ·exact Nat.zero_le _
  ·unfold getR; split <;> exact Nat.zero_le _
  ·exact Nat.zero_le _
  ·exact Nat.zero_le _
  ·unfold evictR; split
   ·exact Nat.zero_le _
   ·exact hd _ _
  ·exact Nat.zero_le _
 ·exact Nat.zero_le _
theorem doP_may {C : Cf} {P : List PA} (h : P = [] ∨ pckB C P = true) (O : Oq) : (doP C P O).1 = [] ∨ pckB C (doP C P O).1 = true := by
 cases hc : pckB C P with
 | true => exact .inr (doR_ok hc _ _ _)
 | false =>
  rcases h with rfl | h
  ·exact .inl (by unfold doP; rw [doR_no hc]; rfl)
  ·rw [h] at hc; cases hc
theorem run_inv (C : Cf) (l : List Oq) : (runP C l).1.length ≤ l.length ∧ ((runP C l).1 = [] ∨ pckB C (runP C l).1 = true) ∧ (runP C l).2.2.length ≤ 16 * l.length ∧ (runP C l).2.1.length = l.length := by
 induction l using snoc_ind with
 | nil => exact ⟨Nat.le_refl _, .inl rfl, Nat.le_refl _, rfl⟩
 | snoc l O ih =>
  obtain ⟨h1, h2, h3, h4⟩ := ih
  rw [runP_snoc, List.length_append, List.length_singleton]
  have g1 := doR_len C (runP C l).1 (worP (runP C l).1) (tplP (runP C l).1 O.g) O
  have g2 := doR_ev (C := C) (get_few h2).2 (worP (runP C l).1) (tplP (runP C l).1 O.g) O
  refine ⟨?_, doP_may h2 O, ?_, ?_⟩
  ·show (doP C (runP C l).1 O).1.length ≤ _
   unfold doP
   omega
  ·show ((runP C l).2.2 ++ (doP C (runP C l).1 O).2.2).length ≤ _
   rw [List.length_append]
   unfold doP
   omega
  ·show ((runP C l).2.1 ++ [_]).length = _
   rw [List.length_append, h4]
   rfl
structure Rn where
 a : Option Addr
 c : Nat
 L : List Ac
 Z : List Rz
 za : Option Addr
 zc : Nat
 ea : Option Addr
 ec : Nat
def Rn.ok (x : Rn) (R : St3) : Prop := x.L.map acP = R.1 ∧ (∀ y ∈ x.L, y.fit) ∧ Sl x.a x.L.length x.c ∧ x.Z.map (·.r) = R.2.1 ∧ (∀ z ∈ x.Z, Sl z.a z.r.l.length z.c) ∧ Sl x.za x.Z.length x.zc ∧ Sl x.ea R.2.2.length x.ec
def Rn.v (x : Rn) (R : St3) : Value := .tuple #[.slice x.a x.L.length x.c, .slice x.za x.Z.length x.zc, .slice x.ea R.2.2.length x.ec]
def Rn.fs (x : Rn) (R : St3) : List Fact := rowF (pt x.za x.Z.length) (cellsZ x.Z) :: rowF (pt x.ea R.2.2.length) (cellsE R.2.2) :: (acsF x.a x.L.length x.L ++ x.Z.map rzF)
theorem fresh0 (w : World) : ∀ φ ∈ acsF (none, 0).1 ([] : List Ac).length [] ++ ([] : List Rz).map rzF, ∀ g, φ.g = some g → w.heap.size ≤ g := by
 intro φ hφ g hg
 have : φ = rowF (pt none 0) (cellsA []) := by simpa [acsF] using hφ
 subst this
 cases hg
theorem mem0 {F : Fact} {φ : Fact} (h : φ ∈ F :: (acsF none 0 [] ++ ([] : List Rz).map rzF)) : φ ∈ rowF none [] :: [F] := by
 rcases List.mem_cons.1 h with rfl | h
 ·exact .tail _ (.head _)
 ·have : φ = rowF (pt none 0) (cellsA []) := by simpa [acsF] using h
  subst this
  exact .head _
theorem run (C : Cf) (l : List Oq) (a : Option Addr) (n c : Nat) (w : World) (hM : Most w) (hs : Sl a n c) (hn : n = l.length) (hrow : At w (pt a n) (cellsO l)) (hl : ∀ O ∈ l, O.d.size ≤ 1000000 ∧ -9223372036854775808 ≤ O.g ∧ O.g ≤ 9223372036854775807) (h20 : n ≤ 20) :
  Calls Tryz.prog 28 (List.toArray [C.val, .slice a n c]) w fun e w' => ∃ x : Rn, x.ok (runP C l) ∧ Gives w w' e (x.v (runP C l)) (x.fs (runP C l)) := by
 have hn63 := hs.le
 refine calls_of_exec Sxs.env_ok.keeps.soon_ Tryz.func28 rfl [] (schedQ_ok _ _ (by kernel_rfl)) [rowF (pt a n) (cellsO l)] (at1 hrow) ?_
 conv=>arg 5;whnf
 refine loop_nil 8 34 9 rfl ?_
 refine loop_nil 9 68 8 rfl ?_
 refine loop_fact (rowF none []) (fun g hg => by cases hg) ?_
 refine loop_ruleE Sxs.env_ok.keeps.soon_ [] (schedQ_ok _ _ (by kernel_rfl)) [1, 1, 1] (fun i : Nat × (One × List Ac) × List Rz => i.1 ≤ n ∧ i.2.1.2.map acP = (runP C (l.take i.1)).1 ∧ (∀ y ∈ i.2.1.2, y.fit) ∧ Sl i.2.1.1.1 i.2.1.2.length i.2.1.1.2 ∧ i.2.2.map (·.r) = (runP C (l.take i.1)).2.1 ∧ (∀ z ∈ i.2.2, Sl z.a z.r.l.length z.c) ∧ (∀ φ ∈ acsF i.2.1.1.1 i.2.1.2.length i.2.1.2 ++ i.2.2.map rzF, ∀ g, φ.g = some g → w.heap.size ≤ g)) (fun i => (⟨[some ([.v (.int .i64 C.sh), .v (.int .i64 C.so), .v (.int .i64 C.hd), .v (.int .i64 C.per), .v (.int .i64 C.bp), .v (.int .i64 C.fd), .v (.int .i64 C.wk), .v (.int .i64 C.rm)], 23)], [some ⟨34, 9, i.2.2.length, cellsZ i.2.2⟩, some ⟨68, 8, (runP C (l.take i.1)).2.2.length, cellsE (runP C (l.take i.1)).2.2⟩], rowF (pt a n) (cellsO l) :: (acsF i.2.1.1.1 i.2.1.2.length i.2.1.2 ++ i.2.2.map rzF)⟩, [.any, .v (.slice a n c), .p 0 0, .any, .v (.slice none 0 0), .v (.slice none 0 0), .v (.slice none 0 0), .v (.slice i.2.1.1.1 i.2.1.2.length i.2.1.1.2), .r 0, .r 1, .any, .any, .any, .any, .any, .v (.slice a n c), .v (.int .i64 n), .v (.int .i64 i.1), .any, .any, .any, .any, .any, .any, .any, .any, .any, .any, .any, .any, .any, .any, .any, .any, .any, .any, .any, .any, .any, .any, .any])) (fun i => n - i.1) (0, ((none, 0), []), []) ⟨Nat.zero_le _, rfl, by simp, sl0, rfl, by simp, fresh0 w⟩ ⟨by repeat' first | exact trivial | refine ⟨.inl rfl, ?_⟩ | refine ⟨.inr rfl, ?_⟩, ⟨by repeat' first | exact trivial | refine ⟨.inl rfl, ?_⟩ | refine ⟨.inr rfl, ?_⟩, by repeat' first | exact trivial | refine ⟨.inl rfl, ?_⟩ | refine ⟨.inr rfl, ?_⟩, fun φ h => mem0 h⟩, rfl⟩ ?_
 rintro ⟨k, ⟨⟨u, cu⟩, Ls⟩, Z⟩ ⟨hk, hLm, hLf, hu, hZm, hZs, hfr⟩
 have hk : k ≤ n := hk
 have hu : Sl u Ls.length cu := hu
 have hLm : Ls.map acP = (runP C (l.take k)).1 := hLm
 have hZm : Z.map (·.r) = (runP C (l.take k)).2.1 := hZm
 have hLf : ∀ y ∈ Ls, y.fit := hLf
 have hZs : ∀ z ∈ Z, Sl z.a z.r.l.length z.c := hZs
 have hfr : ∀ φ ∈ acsF u Ls.length Ls ++ Z.map rzF, ∀ g, φ.g = some g → w.heap.size ≤ g := hfr
 obtain ⟨b1, b2, b3, b4⟩ := run_inv C (l.take k)
 have hlk : (l.take k).length ≤ k := by rw [List.length_take]; omega
 have hLl : Ls.length ≤ 20 := by rw [← hLm, List.length_map] at b1; omega
 have hZl : Z.length ≤ 20 := by rw [← hZm, List.length_map] at b4; omega
 have hEl : (runP C (l.take k)).2.2.length ≤ 400 := by omega
 conv=>arg 5;whnf
 refine wp_br (fun h1 => ?_) (fun h1 => ?_)
 ·have hlt : k < n := by have h3 := of_decide_eq_true (show decide ((k : Int) < (n : Int)) = true from h1); omega
  obtain ⟨O, hO⟩ : ∃ O, l[k]? = some O := ⟨_, List.getElem?_eq_getElem (by omega)⟩
  obtain ⟨hd, hG⟩ := hl O (List.mem_of_getElem? hO)
  have htk := runP_take (C := C) hO
  have DO := fun w hM hA => do_any C O Ls u Ls.length cu w hM hA (by omega) hd hG (by rw [hLm]; exact Nat.le_trans (tplP_le (fun x hx => by have := (get_few b2).1 x hx; omega) (by omega) O.g) (by omega))
  rw [hLm] at DO
  have hev := doR_ev (C := C) (get_few b2).2 (worP (runP C (l.take k)).1) (tplP (runP C (l.take k)).1 O.g) O
  have hev : (doP C (runP C (l.take k)).1 O).2.2.length ≤ 16 := hev
  have hst : runP C (l.take (k + 1)) = ((doP C (runP C (l.take k)).1 O).1, (runP C (l.take k)).2.1 ++ [(doP C (runP C (l.take k)).1 O).2.1], (runP C (l.take k)).2.2 ++ (doP C (runP C (l.take k)).1 O).2.2) := htk
  clear htk
  generalize doP C (runP C (l.take k)).1 O = R at *
  obtain ⟨RP, Rr, Re⟩ := R
  have hAs : ∀ (β : List Nat) (ρ : List Value) (w' : World) (m : M), Mem w none m β ρ w' → (∀ φ ∈ acsF u Ls.length Ls, φ ∈ m.facts) → Acs w' u Ls.length cu Ls := fun β ρ w' m hM' hm => acs_of hM' hu rfl hLf hm
  conv=>arg 5;whnf
  refine wp_must ⟨by omega, by show (k : Int) < (n : Int); omega, hs.some hlt⟩ ?_
  conv=>arg 5;whnf
  refine readG Sxs.env_ok (vs := O.cs) (sz := 5) (k := k) rfl rfl (.head _) hlt (hs.some hlt) (cellsO_at hO) rfl ?_
  conv=>arg 5;whnf
  refine meetAn (f := 16) (RP, Rr, Re) [] (by simp) rfl (by kernel_rfl) (fun β ρ w' hM' => DO w' (hM.later hM'.below) (hAs _ _ _ _ hM' fun φ hφ => .tail _ (List.mem_append_left _ hφ))) (fun x hx hnew => ?_)
  obtain ⟨x1, x2, x3, x4, x5⟩ := hx
  have x1 : x.L.map acP = RP := x1
  have x4 : Sl x.ta Rr.l.length x.tc := x4
  have x5 : Sl x.ea Re.length x.ec := x5
  have hev : Re.length ≤ 16 := hev
  have hnewW : ∀ φ ∈ x.fs (RP, Rr, Re), ∀ g, φ.g = some g → w.heap.size ≤ g := fun φ hφ g hg => (hnew φ hφ g hg).elim id fun ⟨ψ, h1, h2⟩ => by cases h1
  have ec : cellsZ (Z ++ [⟨Rr, x.ta, x.tc⟩]) = cellsZ Z ++ (⟨Rr, x.ta, x.tc⟩ : Rz).cs := cellsZ_snoc _ _
  have el : (Z ++ [(⟨Rr, x.ta, x.tc⟩ : Rz)]).length = Z.length + 1 := by simp
  have ec2 : cellsE ((runP C (l.take k)).2.2 ++ Re) = cellsE (runP C (l.take k)).2.2 ++ cellsE Re := cellsE_app _ _
  have el2 : ((runP C (l.take k)).2.2 ++ Re).length = (runP C (l.take k)).2.2.length + Re.length := List.length_append
  conv=>arg 5;whnf
  refine wp_must ⟨by show Z.length + 1 ≤ maxLen; unfold maxLen; omega, by show (Z.length + 1) * 96 ≤ 140737488355328; omega⟩ ?_
  conv=>arg 5;whnf
  refine ⟨cellsE Re, cellsE_length Re, cellsE_one Re, fun β ρ w' hM' ad had j u hu => ?_, ?_⟩
  ·have had : x.ea = some ad := had
   have h9 := hM'.at_ (a := pt x.ea Re.length) (xs := cellsE Re) (by exact .tail _ (.head _))
   rw [pt_pos (k := 0) (by cases Re with | nil => simp [cellsE] at hu | cons q r => simp)] at h9
   rw [had] at h9
   exact h9.cell hu
  conv=>arg 5;whnf
  refine wp_must ⟨by show (runP C (l.take k)).2.2.length + Re.length ≤ maxLen; unfold maxLen; omega, by show ((runP C (l.take k)).2.2.length + Re.length) * 72 ≤ 140737488355328; omega, fun ha => x5.2.2 ha⟩ ?_
  conv=>arg 5;whnf
  refine wp_must ⟨by show -9223372036854775808 ≤ (k : Int) + 1; omega, by show (k : Int) + 1 ≤ 9223372036854775807; omega⟩ ?_
  conv=>arg 5;whnf
  refine wp_end ⟨(k + 1, ((x.a, x.c), x.L), Z ++ [⟨Rr, x.ta, x.tc⟩]), ⟨hlt, by simp only [hst]; exact x1, x2, x3, by simp only [hst]; rw [List.map_append, hZm]; rfl, fun z hz => (List.mem_append.1 hz).elim (hZs z) (fun h => by rw [List.mem_singleton] at h; subst h; exact x4), fun φ hφ g hg => ?_⟩, ⟨by simp only [hst]; repeat' first | exact trivial | refine ⟨.inl rfl, ?_⟩ | refine ⟨.inr rfl, ?_⟩, ⟨by repeat' first | exact trivial | refine ⟨.inl rfl, ?_⟩ | refine ⟨.inr rfl, ?_⟩, by simp only [hst]; rw [ec, el, ec2, el2]; repeat' first | exact trivial | refine ⟨.inl rfl, ?_⟩ | refine ⟨.inr rfl, ?_⟩, fun φ hφ => ?_⟩, rfl⟩, by show n - (k + 1) < n - k; omega⟩
  ·rcases List.mem_append.1 hφ with hφ | hφ
   ·exact hnewW φ (.tail _ (.tail _ hφ)) g hg
   ·rw [List.map_append] at hφ
    rcases List.mem_append.1 hφ with hφ | hφ
    ·exact hfr φ (List.mem_append_right _ hφ) g hg
    ·simp only [List.map_cons, List.map_nil, List.mem_singleton] at hφ
     subst hφ
     exact hnewW _ (.head _) g hg
  ·show φ ∈ x.fs (RP, Rr, Re) ++ (rowF (pt a n) (cellsO l) :: (acsF u Ls.length Ls ++ Z.map rzF))
   rcases List.mem_cons.1 hφ with rfl | hφ
   ·exact List.mem_append_right _ (.head _)
   ·rcases List.mem_append.1 hφ with hφ | hφ
    ·exact List.mem_append_left _ (.tail _ (.tail _ hφ))
    ·rw [List.map_append] at hφ
     rcases List.mem_append.1 hφ with hφ | hφ
     ·exact List.mem_append_right _ (.tail _ (List.mem_append_right _ hφ))
     ·simp only [List.map_cons, List.map_nil, List.mem_singleton] at hφ
      subst hφ
      exact List.mem_append_left _ (.head _)
 ·have hkn : k = n := by have h3 := of_decide_eq_false (show decide ((k : Int) < (n : Int)) = false from h1); omega
  have e : l.take k = l := List.take_of_length_le (by omega)
  simp only [e] at *
  conv=>arg 5;whnf
  refine wp_share fun p c_p h_p f_p => ?_
  conv=>arg 5;whnf
  refine wp_share fun q c_q h_q f_q => ?_
  conv=>arg 5;whnf
  refine wp_back fun β ρ w' hM' => ⟨⟨u, cu, Ls, Z, p, c_p, q, c_q⟩, ⟨hLm, hLf, hu, hZm, hZs, h_p, h_q⟩, rfl, hM'.below, fun φ hφ g hg => ?_⟩
  rcases List.mem_cons.1 hφ with rfl | hφ
  ·exact giveF _ hM' (a := p) (xs := cellsZ Z) (by exact .tail _ (.head _)) f_p g hg
  ·rcases List.mem_cons.1 hφ with rfl | hφ
   ·exact giveF _ hM' (a := q) (by exact .head _) f_q g hg
   ·exact ⟨hfr φ hφ g hg, (hM'.fact φ (.tail _ (.tail _ (.tail _ hφ))) g hg).2⟩
end Go.Proofs.YtofpmnkkimgkfaaGreatDoor.pool
namespace Go.Proofs.YtofpmnkkimgkfaaGreatDoor.pool
open Go.RowKit Sx txn queue greedy shard
abbrev T1 : Tx := ⟨1, 0, 5, 9, 10, ByteArray.empty⟩
abbrev T2 : Tx := ⟨2, 0, 4, 9, 10, ByteArray.empty⟩
abbrev T3 : Tx := ⟨3, 0, 4, 9, 10, ByteArray.empty⟩
abbrev C0 : Cf := ⟨2, 1, 2, 2, 0, 1, 1, 1⟩
def bz (x : Tx) : ByteArray := ⟨(encV x).toArray⟩
theorem dec_bz {x : Tx} (h : x.ok = true) : dec (bz x).data.toList = some x := (dec_iff _ _).2 ⟨h, by show (encV x).toArray.toList = enc x; unfold encV; rw [if_pos h]⟩
theorem do_add {C : Cf} {P : List PA} {s v g : Int} {d : ByteArray} {t : Tx} {R : Rs3} (h : dec d.data.toList = some t) (hp : pckB C P = true) (e : (if (placeV (getP P t.s).1 (getP P t.s).2.1 C.per (getP P t.s).2.2 t C.bp).2 = 0 then
   (if C.hd < slotsP P + (placeV (getP P t.s).1 (getP P t.s).2.1 C.per (getP P t.s).2.2 t C.bp).1 then failP P 6
   else (setP P ((getP P t.s).1, (getP P t.s).2.1, putV t (getP P t.s).2.2), ⟨0, tx0, [], 0⟩, [(if (findV (getP P t.s).2.2 t.n).2 = true then 2 else 1, t)]))
  else failP P (placeV (getP P t.s).1 (getP P t.s).2.1 C.per (getP P t.s).2.2 t C.bp).2) = R) : doP C P ⟨0, s, v, g, d⟩ = R := by
 unfold doP doR
 rw [if_pos hp, if_pos rfl, addR_some h]
 exact e
theorem stP_eq {C : Cf} {P : List PA} {rs : List Rq} {es : List Ev} {O : Oq} {P' : List PA} {r : Rq} {e : List Ev} (h : doP C P O = (P', r, e)) : stP C (P, rs, es) O = (P', rs ++ [r], es ++ e) := by unfold stP; rw [h]
abbrev A1 : PA := (1, 0, [T1])
abbrev A2 : PA := (2, 0, [T2])
abbrev A4 : PA := (1, 4, [])
theorem q1 : doP C0 [] ⟨0, 0, 0, 0, bz T1⟩ = ([A1], ⟨0, tx0, [], 0⟩, [(1, T1)]) := do_add (dec_bz rfl) (by kernel_rfl) (by kernel_rfl)
theorem q2 : doP C0 [A1] ⟨0, 0, 0, 0, bz T2⟩ = ([A1, A2], ⟨0, tx0, [], 0⟩, [(1, T2)]) := do_add (dec_bz rfl) (by kernel_rfl) (by kernel_rfl)
theorem q3 : doP C0 [A1, A2] ⟨0, 0, 0, 0, bz T3⟩ = ([A1, A2], ⟨6, tx0, [], 0⟩, []) := do_add (dec_bz rfl) (by kernel_rfl) (by kernel_rfl)
theorem q4 : doP C0 [A1, A2] ⟨5, 0, 0, 15, ByteArray.empty⟩ = ([A1, A2], ⟨0, tx0, [T1], 0⟩, []) := by kernel_rfl
theorem q5 : doP C0 [A1, A2] ⟨6, 0, 0, 0, ByteArray.empty⟩ = ([A1], ⟨0, T2, [], 0⟩, [(3, T2)]) := by kernel_rfl
theorem q6 : doP C0 [A1] ⟨6, 0, 0, 0, ByteArray.empty⟩ = ([A1], ⟨7, tx0, [], 0⟩, []) := by kernel_rfl
theorem q7 : doP C0 [A1] ⟨4, 0, 0, 0, ByteArray.empty⟩ = ([A1], ⟨0, tx0, [], 1⟩, []) := by kernel_rfl
theorem q8 : doP C0 [A1] ⟨2, 1, 4, 0, ByteArray.empty⟩ = ([A4], ⟨0, tx0, [T1], 0⟩, [(3, T1)]) := by kernel_rfl
theorem q9 : doP C0 [A4] ⟨0, 0, 0, 0, bz T1⟩ = ([A4], ⟨3, tx0, [], 0⟩, []) := do_add (dec_bz rfl) (by kernel_rfl) (by kernel_rfl)
theorem q10 : doP C0 [A4] ⟨0, 0, 0, 0, ⟨#[120]⟩⟩ = ([A4], ⟨2, tx0, [], 0⟩, []) := by kernel_rfl
theorem q11 : doP C0 [A4] ⟨3, 2, 0, 0, ByteArray.empty⟩ = ([A4], ⟨7, tx0, [], 0⟩, []) := by kernel_rfl
theorem q12 : doP C0 [A4] ⟨7, 0, 0, 0, ByteArray.empty⟩ = ([A4], ⟨1, tx0, [], 0⟩, []) := by kernel_rfl
def liveO : List Oq := [⟨0, 0, 0, 0, bz T1⟩, ⟨0, 0, 0, 0, bz T2⟩, ⟨0, 0, 0, 0, bz T3⟩, ⟨5, 0, 0, 15, ByteArray.empty⟩, ⟨6, 0, 0, 0, ByteArray.empty⟩, ⟨6, 0, 0, 0, ByteArray.empty⟩, ⟨4, 0, 0, 0, ByteArray.empty⟩, ⟨2, 1, 4, 0, ByteArray.empty⟩, ⟨0, 0, 0, 0, bz T1⟩, ⟨0, 0, 0, 0, ⟨#[120]⟩⟩, ⟨3, 2, 0, 0, ByteArray.empty⟩, ⟨7, 0, 0, 0, ByteArray.empty⟩]
def liveR : St3 := ([A4], [⟨0, tx0, [], 0⟩, ⟨0, tx0, [], 0⟩, ⟨6, tx0, [], 0⟩, ⟨0, tx0, [T1], 0⟩, ⟨0, T2, [], 0⟩, ⟨7, tx0, [], 0⟩, ⟨0, tx0, [], 1⟩, ⟨0, tx0, [T1], 0⟩, ⟨3, tx0, [], 0⟩, ⟨2, tx0, [], 0⟩, ⟨7, tx0, [], 0⟩, ⟨1, tx0, [], 0⟩], [(1, T1), (1, T2), (3, T2), (3, T1)])
theorem live_run : runP C0 liveO = liveR := by
 unfold runP liveO
 simp only [List.foldl_cons, List.foldl_nil]
 rw [stP_eq q1, stP_eq q2, stP_eq q3, stP_eq q4, stP_eq q5, stP_eq q6, stP_eq q7, stP_eq q8, stP_eq q9, stP_eq q10, stP_eq q11, stP_eq q12]
 rfl
end Go.Proofs.YtofpmnkkimgkfaaGreatDoor.pool
namespace Go.Proofs.YtofpmnkkimgkfaaGreatDoor.pool
open Go.RowKit Sx txn queue greedy shard
section
variable {P : Program} {W : World} {G : Option Nat} {Q : Ending → World → Prop} {ds : List Deferred}
theorem meetRn {f : FuncId} {args : List Sx.T} {l : List Value} {m : M} {k : Value → List Fact → Tree} (R : St3) (hv : valsOf args = some l) (hc : callable P f = true)
  (hC : ∀ β ρ w, Mem W G m β ρ w → Calls P f (List.toArray l) w fun e w' => ∃ x : Rn, x.ok R ∧ Gives w w' e (x.v R) (x.fs R)) (h : ∀ x : Rn, x.ok R → (∀ φ ∈ x.fs R, ∀ g, φ.g = some g → W.heap.size ≤ g) → (k (x.v R) (x.fs R)).wpD P W G Q ds) : (Tree.call f args m k).wpD P W G Q ds :=
 meetR (ι := Rn) (ok := fun x => x.ok R ∧ ∀ φ ∈ x.fs R, ∀ g, φ.g = some g → W.heap.size ≤ g) (v := fun x => x.v R) (fs := fun x => x.fs R) hc (fun β ρ w vs hm hr => by
  rw [valsOf_spec _ _ _ hv hr]
  exact (hC β ρ w hm).mono fun e w' ⟨x, hx, hg⟩ => ⟨x, ⟨hx, fun φ hφ g hgg => Nat.le_trans hm.grown.size (hg.2.2 φ hφ g hgg).1⟩, hg⟩) (fun x hx => h x hx.1 hx.2)
end
theorem zs_cons {Z : List Rz} {r : Rq} {rs : List Rq} (h : Z.map (·.r) = r :: rs) : ∃ a c Z', Z = ⟨r, a, c⟩ :: Z' ∧ Z'.map (·.r) = rs := by
 cases Z with
 | nil => cases h
 | cons z Z =>
  rw [List.map_cons, List.cons.injEq] at h
  obtain ⟨h1, h2⟩ := h
  subst h1
  exact ⟨z.a, z.c, Z, rfl, h2⟩
theorem zs_nil {Z : List Rz} (h : Z.map (·.r) = []) : Z = [] := List.map_eq_nil_iff.1 h
theorem enc_ (x : Tx) (hok : x.ok = true) (w : World) (hd : x.d.size ≤ maxLen) : Calls Tryz.prog 39 (List.toArray [x.val]) w fun e w' => e = .returned (.tuple #[.string (bz x), .bool true]) ∧ Below w.heap.size w w' := by
 have := rencode x w hd
 rw [hok] at this
 exact this
theorem lives : ∀ O ∈ liveO, O.d.size ≤ 1000000 ∧ -9223372036854775808 ≤ O.g ∧ O.g ≤ 9223372036854775807 := by
 have h1 : (bz T1).size ≤ 1000000 := of_decide_eq_true (by kernel_rfl)
 have h2 : (bz T2).size ≤ 1000000 := of_decide_eq_true (by kernel_rfl)
 have h3 : (bz T3).size ≤ 1000000 := of_decide_eq_true (by kernel_rfl)
 have h4 : ByteArray.empty.size ≤ 1000000 := Nat.zero_le _
 have h5 : (⟨#[120]⟩ : ByteArray).size ≤ 1000000 := by show 1 ≤ 1000000; omega
 intro O hO
 unfold liveO at hO
 simp only [List.mem_cons, List.not_mem_nil, or_false] at hO
 rcases hO with rfl | rfl | rfl | rfl | rfl | rfl | rfl | rfl | rfl | rfl | rfl | rfl <;> first | exact ⟨h1, by decide, by decide⟩ | exact ⟨h2, by decide, by decide⟩ | exact ⟨h3, by decide, by decide⟩ | exact ⟨h4, by decide, by decide⟩ | exact ⟨h5, by decide, by decide⟩
theorem cfg_c0 (w : World) : Calls Tryz.prog 21 (List.toArray [C0.val]) w fun e w' => e = .returned (.bool true) ∧ Below w.heap.size w w' := config C0 w
theorem cfg_no (w : World) : Calls Tryz.prog 21 (List.toArray [(⟨0, 0, 0, 0, 0, 0, 0, 0⟩ : Cf).val]) w fun e w' => e = .returned (.bool false) ∧ Below w.heap.size w w' := config ⟨0, 0, 0, 0, 0, 0, 0, 0⟩ w
theorem chk_c0 (w : World) (hM : Most w) : Calls Tryz.prog 23 (List.toArray [C0.val, .slice none 0 0]) w fun e w' => e = .returned (.bool true) ∧ Below w.heap.size w w' := pcheck C0 [] none 0 0 w hM (acs0 w) (by decide)
theorem live (w : World) (hM : Most w) : Calls Tryz.prog 15 (List.toArray []) w fun e w' => e = .returned (.bool true) ∧ Below w.heap.size w w' := by
 refine calls_of_exec Sxs.env_ok.keeps.soon_ Tryz.func15 rfl [] (schedQ_ok _ _ (by kernel_rfl)) [] (by simp) ?_
 conv=>arg 5;whnf
 refine meetc (f := 39) (v := .tuple #[.string (bz T1), .bool true]) rfl (by kernel_rfl) (fun β ρ w' hM' => enc_ T1 rfl w' (Nat.zero_le _)) ?_
 conv=>arg 5;whnf
 refine meetc (f := 39) (v := .tuple #[.string (bz T2), .bool true]) rfl (by kernel_rfl) (fun β ρ w' hM' => enc_ T2 rfl w' (Nat.zero_le _)) ?_
 conv=>arg 5;whnf
 refine meetc (f := 39) (v := .tuple #[.string (bz T3), .bool true]) rfl (by kernel_rfl) (fun β ρ w' hM' => enc_ T3 rfl w' (Nat.zero_le _)) ?_
 conv=>arg 5;whnf
 refine wp_share fun p c_p h_p f_p => ?_
 conv=>arg 5;whnf
 refine meetRn (f := 28) liveR rfl (by kernel_rfl) (fun β ρ w' hM' => live_run ▸ run C0 liveO p 12 c_p w' (hM.later hM'.below) h_p rfl (at_any 12 (hM'.at_ (a := p) (xs := cellsO liveO) (.head _))) lives (by decide)) (fun x hx _ => ?_)
 obtain ⟨xa, xc, L, Z, za, zc, ea, ec⟩ := x
 obtain ⟨x1, x2, x3, x4, x5, x6, x7⟩ := hx
 obtain ⟨y, yn, yc, rfl⟩ := one_of (show L.map acP = [A4] from x1)
 have x4 : Z.map (·.r) = [⟨0, tx0, [], 0⟩, ⟨0, tx0, [], 0⟩, ⟨6, tx0, [], 0⟩, ⟨0, tx0, [T1], 0⟩, ⟨0, T2, [], 0⟩, ⟨7, tx0, [], 0⟩, ⟨0, tx0, [], 1⟩, ⟨0, tx0, [T1], 0⟩, ⟨3, tx0, [], 0⟩, ⟨2, tx0, [], 0⟩, ⟨7, tx0, [], 0⟩, ⟨1, tx0, [], 0⟩] := x4
 obtain ⟨t0, d0, Z0, rfl, y0⟩ := zs_cons x4
 obtain ⟨t1, d1, Z1, rfl, y1⟩ := zs_cons y0
 obtain ⟨t2, d2, Z2, rfl, y2⟩ := zs_cons y1
 obtain ⟨t3, d3, Z3, rfl, y3⟩ := zs_cons y2
 obtain ⟨t4, d4, Z4, rfl, y4⟩ := zs_cons y3
 obtain ⟨t5, d5, Z5, rfl, y5⟩ := zs_cons y4
 obtain ⟨t6, d6, Z6, rfl, y6⟩ := zs_cons y5
 obtain ⟨t7, d7, Z7, rfl, y7⟩ := zs_cons y6
 obtain ⟨t8, d8, Z8, rfl, y8⟩ := zs_cons y7
 obtain ⟨t9, d9, Z9, rfl, y9⟩ := zs_cons y8
 obtain ⟨t10, d10, Z10, rfl, y10⟩ := zs_cons y9
 obtain ⟨t11, d11, Z11, rfl, y11⟩ := zs_cons y10
 obtain rfl := zs_nil y11
 have x3 : Sl xa 1 xc := x3
 have x6 : Sl za 12 zc := x6
 have x7 : Sl ea 4 ec := x7
 have h3 : Sl t3 1 d3 := x5 _ (.tail _ (.tail _ (.tail _ (.head _))))
 conv=>arg 5;whnf
 refine wp_must ⟨by decide, by show (3 : Int) < ((12 : Nat) : Int); decide, x6.some (show 3 < 12 by decide)⟩ ?_
 conv=>arg 5;whnf
 refine readF (sz := 9) (k := 3) (f := 7) (.slice t3 1 d3) rfl (.head _) (show 3 < 12 by decide) (x6.some (show 3 < 12 by decide)) rfl rfl ?_
 conv=>arg 5;whnf
 refine wp_must ⟨by decide, by show (0 : Int) < ((12 : Nat) : Int); decide, x6.some (show 0 < 12 by decide)⟩ ?_
 conv=>arg 5;whnf
 refine readF (sz := 9) (k := 0) (f := 0) (.int .i64 0) rfl (.head _) (show 0 < 12 by decide) (x6.some (show 0 < 12 by decide)) rfl rfl ?_
 conv=>arg 5;whnf
 refine wp_must ⟨by decide, by show (2 : Int) < ((12 : Nat) : Int); decide, x6.some (show 2 < 12 by decide)⟩ ?_
 conv=>arg 5;whnf
 refine readF (sz := 9) (k := 2) (f := 0) (.int .i64 6) rfl (.head _) (show 2 < 12 by decide) (x6.some (show 2 < 12 by decide)) rfl rfl ?_
 conv=>arg 5;whnf
 refine wp_must ⟨by decide, by show (3 : Int) < ((12 : Nat) : Int); decide, x6.some (show 3 < 12 by decide)⟩ ?_
 conv=>arg 5;whnf
 refine readF (sz := 9) (k := 3) (f := 7) (.slice t3 1 d3) rfl (.head _) (show 3 < 12 by decide) (x6.some (show 3 < 12 by decide)) rfl rfl ?_
 conv=>arg 5;whnf
 refine wp_must ⟨by decide, by show (0 : Int) < ((1 : Nat) : Int); decide, h3.some (show 0 < 1 by decide)⟩ ?_
 conv=>arg 5;whnf
 refine readF (sz := 6) (k := 0) (f := 0) (.int .i64 1) rfl (by exact .tail _ (.tail _ (.tail _ (.tail _ (.tail _ (.tail _ (.tail _ (.head _)))))))) (show 0 < 1 by decide) (h3.some (show 0 < 1 by decide)) rfl rfl ?_
 conv=>arg 5;whnf
 refine wp_must ⟨by decide, by show (4 : Int) < ((12 : Nat) : Int); decide, x6.some (show 4 < 12 by decide)⟩ ?_
 conv=>arg 5;whnf
 refine readF (sz := 9) (k := 4) (f := 1) (.int .i64 2) rfl (.head _) (show 4 < 12 by decide) (x6.some (show 4 < 12 by decide)) rfl rfl ?_
 conv=>arg 5;whnf
 refine wp_must ⟨by decide, by show (5 : Int) < ((12 : Nat) : Int); decide, x6.some (show 5 < 12 by decide)⟩ ?_
 conv=>arg 5;whnf
 refine readF (sz := 9) (k := 5) (f := 0) (.int .i64 7) rfl (.head _) (show 5 < 12 by decide) (x6.some (show 5 < 12 by decide)) rfl rfl ?_
 conv=>arg 5;whnf
 refine wp_must ⟨by decide, by show (6 : Int) < ((12 : Nat) : Int); decide, x6.some (show 6 < 12 by decide)⟩ ?_
 conv=>arg 5;whnf
 refine readF (sz := 9) (k := 6) (f := 8) (.int .i64 1) rfl (.head _) (show 6 < 12 by decide) (x6.some (show 6 < 12 by decide)) rfl rfl ?_
 conv=>arg 5;whnf
 refine wp_must ⟨by decide, by show (7 : Int) < ((12 : Nat) : Int); decide, x6.some (show 7 < 12 by decide)⟩ ?_
 conv=>arg 5;whnf
 refine readF (sz := 9) (k := 7) (f := 7) (.slice t7 1 d7) rfl (.head _) (show 7 < 12 by decide) (x6.some (show 7 < 12 by decide)) rfl rfl ?_
 conv=>arg 5;whnf
 refine wp_must ⟨by decide, by show (8 : Int) < ((12 : Nat) : Int); decide, x6.some (show 8 < 12 by decide)⟩ ?_
 conv=>arg 5;whnf
 refine readF (sz := 9) (k := 8) (f := 0) (.int .i64 3) rfl (.head _) (show 8 < 12 by decide) (x6.some (show 8 < 12 by decide)) rfl rfl ?_
 conv=>arg 5;whnf
 refine wp_must ⟨by decide, by show (9 : Int) < ((12 : Nat) : Int); decide, x6.some (show 9 < 12 by decide)⟩ ?_
 conv=>arg 5;whnf
 refine readF (sz := 9) (k := 9) (f := 0) (.int .i64 2) rfl (.head _) (show 9 < 12 by decide) (x6.some (show 9 < 12 by decide)) rfl rfl ?_
 conv=>arg 5;whnf
 refine wp_must ⟨by decide, by show (10 : Int) < ((12 : Nat) : Int); decide, x6.some (show 10 < 12 by decide)⟩ ?_
 conv=>arg 5;whnf
 refine readF (sz := 9) (k := 10) (f := 0) (.int .i64 7) rfl (.head _) (show 10 < 12 by decide) (x6.some (show 10 < 12 by decide)) rfl rfl ?_
 conv=>arg 5;whnf
 refine wp_must ⟨by decide, by show (11 : Int) < ((12 : Nat) : Int); decide, x6.some (show 11 < 12 by decide)⟩ ?_
 conv=>arg 5;whnf
 refine readF (sz := 9) (k := 11) (f := 0) (.int .i64 1) rfl (.head _) (show 11 < 12 by decide) (x6.some (show 11 < 12 by decide)) rfl rfl ?_
 conv=>arg 5;whnf
 refine wp_must ⟨by decide, by show (0 : Int) < ((1 : Nat) : Int); decide, x3.some (show 0 < 1 by decide)⟩ ?_
 conv=>arg 5;whnf
 refine readF (sz := 3) (k := 0) (f := 1) (.int .i64 4) rfl (by exact .tail _ (.tail _ (.head _))) (show 0 < 1 by decide) (x3.some (show 0 < 1 by decide)) rfl rfl ?_
 conv=>arg 5;whnf
 refine wp_must ⟨by decide, by show (0 : Int) < ((4 : Nat) : Int); decide, x7.some (show 0 < 4 by decide)⟩ ?_
 conv=>arg 5;whnf
 refine readF (sz := 8) (k := 0) (f := 0) (.int .i64 1) rfl (by exact .tail _ (.head _)) (show 0 < 4 by decide) (x7.some (show 0 < 4 by decide)) rfl rfl ?_
 conv=>arg 5;whnf
 refine wp_must ⟨by decide, by show (3 : Int) < ((4 : Nat) : Int); decide, x7.some (show 3 < 4 by decide)⟩ ?_
 conv=>arg 5;whnf
 refine readF (sz := 8) (k := 3) (f := 0) (.int .i64 3) rfl (by exact .tail _ (.head _)) (show 3 < 4 by decide) (x7.some (show 3 < 4 by decide)) rfl rfl ?_
 conv=>arg 5;whnf
 refine meetc (f := 21) (v := .bool true) rfl (by kernel_rfl) (fun β ρ w' hM' => cfg_c0 w') ?_
 conv=>arg 5;whnf
 refine meetc (f := 21) (v := .bool false) rfl (by kernel_rfl) (fun β ρ w' hM' => cfg_no w') ?_
 conv=>arg 5;whnf
 refine meetc (f := 23) (v := .bool true) rfl (by kernel_rfl) (fun β ρ w' hM' => chk_c0 w' (hM.later hM'.below)) ?_
 conv=>arg 5;whnf
 exact wp_back fun β ρ w' hM' => ⟨rfl, hM'.below⟩
end Go.Proofs.YtofpmnkkimgkfaaGreatDoor.pool
namespace Go.Proofs.YtofpmnkkimgkfaaGreatDoor.pool
open Go.RowKit Go.ChangeShapes Go.WideShapes Sx txn queue greedy shard
theorem typed_cfg : Typed Tryz.prog 23 (.flat [.int, .int, .int, .int, .int, .int, .int, .int]) := .struct Tryz.underlying23 (.cons rfl typed_int (.cons rfl typed_int (.cons rfl typed_int (.cons rfl typed_int (.cons rfl typed_int (.cons rfl typed_int (.cons rfl typed_int (.cons rfl typed_int (.nil))))))))) (by kernel_rfl)
abbrev shOp : List Sh := [.int, .int, .int, .int, .str]
theorem typed_op : Typed Tryz.prog 26 (.flat shOp) := .struct Tryz.underlying26 (.cons rfl typed_int (.cons rfl typed_int (.cons rfl typed_int (.cons rfl typed_int (.cons rfl typed_string .nil))))) (by kernel_rfl)
theorem typed_ops : Typed Tryz.prog 49 (.row (.flat shOp)) := .row Tryz.underlying49 (by kernel_rfl) typed_op (by decide)
def Oq.fits (O : Oq) : Prop := Fits O.k ∧ Fits O.s ∧ Fits O.v ∧ Fits O.g ∧ O.d.size ≤ maxLen
theorem lies_op {w : World} {vs : List Value} {ds : List D} (h : LiesL w shOp vs ds) : ∃ O : Oq, vs = O.cs ∧ O.fits := by
 cases h with
 | cons h0 h =>
 cases h with
 | cons h1 h =>
 cases h with
 | cons h2 h =>
 cases h with
 | cons h3 h =>
 cases h with
 | cons h4 h =>
 cases h
 cases h0 with
 | int f0 =>
 cases h1 with
 | int f1 =>
 cases h2 with
 | int f2 =>
 cases h3 with
 | int f3 =>
 cases h4 with
 | str f4 =>
 exact ⟨⟨_, _, _, _, _⟩, rfl, f0, f1, f2, f3, f4⟩
theorem LiesN.ops {w : World} : ∀ {vs : List Value} {ds : List D}, LiesN w (.flat shOp) vs ds → ∃ l : List Oq, vs = cellsO l ∧ ds.length = l.length ∧ ∀ O ∈ l, O.fits
 | _, _, .nil => ⟨[], rfl, rfl, by simp⟩
 | _, _, .cons h hl => by
  obtain ⟨l, rfl, h2, h3⟩ := LiesN.ops hl
  cases h with
  | flat h =>
   obtain ⟨O, rfl, hO⟩ := lies_op h
   refine ⟨O :: l, rfl, by simp [h2], fun p hp => ?_⟩
   rcases List.mem_cons.1 hp with rfl | hp
   ·exact hO
   ·exact h3 p hp
section
variable {H : Type} {enc : TypeId × Value → H} {W : World} {r : Reach} {b0 base : Nat} {spare : Nat → Bool} {held : Bool} {v : Value} {d : DataW H} {p : List MemPlace}
theorem open_cfg (hv : Value.okWide Tryz.prog W r b0 23 v) (h : DataW.Trod enc Tryz.prog W base spare held 23 v d p) : ∃ C : Cf, v = C.val ∧ True := by
 obtain ⟨vs, ds, rfl, hl⟩ := open_struct Tryz.underlying23 typed_cfg hv h
 cases hl with
 | cons h0 hl =>
 cases hl with
 | cons h1 hl =>
 cases hl with
 | cons h2 hl =>
 cases hl with
 | cons h3 hl =>
 cases hl with
 | cons h4 hl =>
 cases hl with
 | cons h5 hl =>
 cases hl with
 | cons h6 hl =>
 cases hl with
 | cons h7 hl =>
 cases hl
 cases h0 with
 | int f0 =>
 cases h1 with
 | int f1 =>
 cases h2 with
 | int f2 =>
 cases h3 with
 | int f3 =>
 cases h4 with
 | int f4 =>
 cases h5 with
 | int f5 =>
 cases h6 with
 | int f6 =>
 cases h7 with
 | int f7 =>
 exact ⟨⟨_, _, _, _, _, _, _, _⟩, rfl, trivial⟩
theorem open_ops (hv : Value.okWide Tryz.prog W r b0 49 v) (h : DataW.Trod enc Tryz.prog W base spare held 49 v d p) : ∃ a n c, ∃ l : List Oq, v = .slice a n c ∧ Sl a n c ∧ n = l.length ∧ At W (pt a n) (cellsO l) ∧ ∀ O ∈ l, O.fits := by
 obtain ⟨a, n, c, xs, ds, rfl, hs, hn, hl, ha⟩ := open_row Tryz.underlying49 typed_ops hv h
 obtain ⟨l, rfl, h2, h3⟩ := LiesN.ops hl
 exact ⟨a, n, c, l, rfl, hs, by omega, ha, h3⟩
end
end Go.Proofs.YtofpmnkkimgkfaaGreatDoor.pool
namespace Go.Proofs.YtofpmnkkimgkfaaGreatDoor.pool
open Go.RowKit Sx txn queue greedy shard
theorem ops_ (l : List Oq) (a : Option Addr) (n c : Nat) (w : World) (hs : Sl a n c) (hn : n = l.length) (hrow : At w (pt a n) (cellsO l)) (hl : n ≤ 1000000) :
  Calls Tryz.prog 29 (List.toArray [.slice a n c]) w fun e w' => ∃ i : One, Sl i.1 n i.2 ∧ Gives w w' e (.slice i.1 n i.2) [rowF (pt i.1 n) (cellsO l)] := by
 have hn63 := hs.le
 refine calls_of_exec Sxs.env_ok.keeps Tryz.func29 rfl [] (schedQ_ok _ _ (by kernel_rfl)) [rowF (pt a n) (cellsO l)] (at1 hrow) ?_
 conv=>arg 5;whnf
 refine loop_nil 3 38 5 rfl ?_
 refine loop_ruleE Sxs.env_ok.keeps [] (schedQ_ok _ _ (by kernel_rfl)) [0] (fun k : Nat => k ≤ n) (fun k => (⟨[], [some ⟨38, 5, k, cellsO (l.take k)⟩], [rowF (pt a n) (cellsO l)]⟩, [.v (.slice a n c), .any, .v (.slice none 0 0), .r 0, .v (.int .i64 k), .any, .any, .any, .any, .any, .any, .any, .any, .any, .any, .any, .any, .any, .any])) (fun k => n - k) 0 (Nat.zero_le _) ⟨by repeat' first | exact trivial | refine ⟨.inl rfl, ?_⟩ | refine ⟨.inr rfl, ?_⟩, ⟨by repeat' first | exact trivial | refine ⟨.inl rfl, ?_⟩ | refine ⟨.inr rfl, ?_⟩, by repeat' first | exact trivial | refine ⟨.inl rfl, ?_⟩ | refine ⟨.inr rfl, ?_⟩, fun _ h => h⟩, rfl⟩ ?_
 intro k hk
 conv=>arg 5;whnf
 refine wp_br (fun h1 => ?_) (fun h1 => ?_)
 ·have hlt : k < n := by have h3 := of_decide_eq_true (show decide ((k : Int) < (n : Int)) = true from h1); omega
  obtain ⟨O, hO⟩ : ∃ O, l[k]? = some O := ⟨_, List.getElem?_eq_getElem (by omega)⟩
  have ec : cellsO (l.take (k + 1)) = cellsO (l.take k) ++ O.cs := by rw [List.take_add_one, hO]; exact cellsO_snoc _ _
  conv=>arg 5;whnf
  refine wp_must ⟨by omega, by show (k : Int) < (n : Int); omega, hs.some hlt⟩ ?_
  conv=>arg 5;whnf
  refine readG Sxs.env_ok (vs := O.cs) (sz := 5) (k := k) rfl rfl (.head _) hlt (hs.some hlt) (cellsO_at hO) rfl ?_
  conv=>arg 5;whnf
  refine wp_must ⟨by show k + 1 ≤ maxLen; unfold maxLen; omega, by show (k + 1) * 48 ≤ 140737488355328; omega⟩ ?_
  conv=>arg 5;whnf
  refine wp_must ⟨by show -9223372036854775808 ≤ (k : Int) + 1; omega, by show (k : Int) + 1 ≤ 9223372036854775807; omega⟩ ?_
  conv=>arg 5;whnf
  refine wp_end ⟨k + 1, hlt, ⟨by repeat' first | exact trivial | refine ⟨.inl rfl, ?_⟩ | refine ⟨.inr rfl, ?_⟩, ⟨by repeat' first | exact trivial | refine ⟨.inl rfl, ?_⟩ | refine ⟨.inr rfl, ?_⟩, by rw [ec]; repeat' first | exact trivial | refine ⟨.inl rfl, ?_⟩ | refine ⟨.inr rfl, ?_⟩, fun _ h => h⟩, rfl⟩, by show n - (k + 1) < n - k; omega⟩
 ·have hkn : k = n := by have h3 := of_decide_eq_false (show decide ((k : Int) < (n : Int)) = false from h1); omega
  have e : l.take k = l := List.take_of_length_le (by omega)
  rw [e, hkn]
  conv=>arg 5;whnf
  refine wp_share fun u c_u h_u f_u => ?_
  conv=>arg 5;whnf
  refine wp_back fun β ρ w' hM' => ⟨(u, c_u), h_u, rfl, hM'.below, fun φ hφ => ?_⟩
  simp only [List.mem_singleton] at hφ
  subst hφ
  exact giveF _ hM' (.head _) f_u
def fewO (l : List Oq) : Bool := l.all fun O => decide (O.d.size ≤ 500)
theorem fewO_drop {l : List Oq} {k : Nat} {O : Oq} (h : l[k]? = some O) : fewO (l.drop k) = (decide (O.d.size ≤ 500) && fewO (l.drop (k + 1))) := by
 obtain ⟨h1, h2⟩ := List.getElem?_eq_some_iff.1 h
 rw [List.drop_eq_getElem_cons h1, h2]
 rfl
theorem few_ (l : List Oq) (a : Option Addr) (n c : Nat) (m : Int) (w : World) (hs : Sl a n c) (hn : n = l.length) (hrow : At w (pt a n) (cellsO l)) :
  Calls Tryz.prog 27 (List.toArray [.slice a n c, .int .i64 m]) w fun e w' => e = .returned (.bool (fewO l && decide ((n : Int) ≤ m))) ∧ Below w.heap.size w w' := by
 have hn63 := hs.le
 refine calls_of_exec Sxs.env_ok.keeps Tryz.func27 rfl [] (schedQ_ok _ _ (by kernel_rfl)) [rowF (pt a n) (cellsO l)] (at1 hrow) ?_
 conv=>arg 5;whnf
 refine loop_rule Sxs.env_ok.keeps [] (schedQ_ok _ _ (by kernel_rfl)) (fun k : Nat => k ≤ n ∧ fewO l = fewO (l.drop k)) (fun k => (⟨[], [], [rowF (pt a n) (cellsO l)]⟩, [.v (.slice a n c), .v (.int .i64 m), .any, .any, .any, .v (.int .i64 k), .any, .any, .any, .any, .any, .any, .any, .any, .any, .any, .any, .any, .any, .any, .any, .any, .any])) (fun k => n - k) 0 ⟨Nat.zero_le _, rfl⟩ ⟨by repeat' first | exact trivial | refine ⟨.inl rfl, ?_⟩ | refine ⟨.inr rfl, ?_⟩, ⟨by repeat' first | exact trivial | refine ⟨.inl rfl, ?_⟩ | refine ⟨.inr rfl, ?_⟩, by repeat' first | exact trivial | refine ⟨.inl rfl, ?_⟩ | refine ⟨.inr rfl, ?_⟩, fun _ h => h⟩, rfl⟩ ?_
 rintro k ⟨hk, he⟩
 conv=>arg 5;whnf
 refine wp_br (fun h1 => ?_) (fun h1 => ?_)
 ·have hlt : k < n := by have h3 := of_decide_eq_true (show decide ((k : Int) < (n : Int)) = true from h1); omega
  obtain ⟨O, hO⟩ : ∃ O, l[k]? = some O := ⟨_, List.getElem?_eq_getElem (by omega)⟩
  have hf := fewO_drop hO
  conv=>arg 5;whnf
  refine wp_must ⟨by omega, by show (k : Int) < (n : Int); omega, hs.some hlt⟩ ?_
  conv=>arg 5;whnf
  refine readF (sz := 5) (k := k) (f := 4) (.string O.d) rfl (.head _) hlt (hs.some hlt) (cellsO_at hO 4 _ rfl) rfl ?_
  conv=>arg 5;whnf
  refine wp_br (fun h2 => ?_) (fun h2 => ?_)
  ·have h3 : (500 : Int) < (O.d.size : Int) := of_decide_eq_true h2
   have h4 : fewO l = false := by rw [he, hf, decide_eq_false (show ¬ O.d.size ≤ 500 by omega)]; rfl
   rw [h4]
   conv=>arg 5;whnf
   exact wp_back fun β ρ w' hM' => ⟨rfl, hM'.below⟩
  ·have h3 : ¬ (500 : Int) < (O.d.size : Int) := of_decide_eq_false h2
   conv=>arg 5;whnf
   refine wp_must ⟨by show -9223372036854775808 ≤ (k : Int) + 1; omega, by show (k : Int) + 1 ≤ 9223372036854775807; omega⟩ ?_
   conv=>arg 5;whnf
   refine wp_end ⟨k + 1, ⟨hlt, by rw [he, hf, decide_eq_true (show O.d.size ≤ 500 by omega), Bool.true_and]⟩, ⟨by repeat' first | exact trivial | refine ⟨.inl rfl, ?_⟩ | refine ⟨.inr rfl, ?_⟩, ⟨by repeat' first | exact trivial | refine ⟨.inl rfl, ?_⟩ | refine ⟨.inr rfl, ?_⟩, by repeat' first | exact trivial | refine ⟨.inl rfl, ?_⟩ | refine ⟨.inr rfl, ?_⟩, fun _ h => h⟩, rfl⟩, by show n - (k + 1) < n - k; omega⟩
 ·have hkn : k = n := by have h3 := of_decide_eq_false (show decide ((k : Int) < (n : Int)) = false from h1); omega
  have h4 : fewO l = true := by rw [he, List.drop_of_length_le (by omega)]; rfl
  rw [h4, Bool.true_and]
  conv=>arg 5;whnf
  exact wp_back fun β ρ w' hM' => ⟨rfl, hM'.below⟩
end Go.Proofs.YtofpmnkkimgkfaaGreatDoor.pool
