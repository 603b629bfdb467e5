/- hopper/hopperlaw11.ShardOrder answers true at every input, and every argument reads behind the call as it read before; hopper/txn.most holds what the program's text lays there: the card ties it. No other condition. -/
import Derived.Test.YtjhopkamfeadjaaDoorRows
import Derived.Test.YtjhopkamfeadjaaDoorTxn
import Derived.OpenShut
import Derived.ChangeOld
import Derived.LaidLaws
import Derived.Test.YtjhopkamfeadjaaDoorShAll
import Derived.Test.YtjhopkamfeadjaaDoorCards
import Derived.Test.YtjhopkamfeadjaaDoorTie
import Derived.WalkKit
import Derived.ProofKit
import Derived.ShutString
import Derived.Below
import Derived.Handed
import Derived.SevenTiedAt
namespace Go.Proofs.YtjhopkamfeadjaaDoor.txn
open Go.RowKit Go.ChangeShapes Go.WideShapes
set_option linter.unusedVariables false

set_option maxRecDepth 100000 in
/-- From what is laid to the cells that Check reads. -/
theorem most_of_laid {W : World} (h : laidMet Tryd.prog [("hopper/txn.most", Rows.laid_hopper_txn_most)] W) : Most W := by
  obtain ⟨ps, ⟨g, t, cs, fuel, p, q, hg, ht, hvar, hd, _, _⟩, _⟩ := h
  obtain rfl := Option.some.inj ((show Tryd.prog.globalNamed "hopper/txn.most" = some 0 by kernel_rfl).symm.trans hg)
  obtain rfl := Option.some.inj ((show (Tryd.prog.globals[0]?).map (·.type) = some 108 by kernel_rfl).symm.trans ht)
  obtain ⟨xs, m, _, hx, hlen, hn, hi⟩ := DataW.trod_array Tryd.underlying108 hd
  have h5 : cs.toList.length = 5 := hlen.trans (by kernel_rfl)
  obtain ⟨l⟩ := cs
  match l, h5 with
  | [c0, c1, c2, c3, c4], _ =>
    match xs, hn with
    | [y0, y1, y2, y3, y4], _ =>
      have k3 : Tryd.prog.cellsOf 3 = 1 := by kernel_rfl
      have g0 := hi 0 (by omega)
      have g1 := hi 1 (by omega)
      have g2 := hi 2 (by omega)
      have g3 := hi 3 (by omega)
      have g4 := hi 4 (by omega)
      simp [k3] at g0 g1 g2 g3 g4
      obtain ⟨a0, e0, f0, _⟩ := DataW.trod_int Tryd.underlying3 g0
      obtain ⟨a1, e1, f1, _⟩ := DataW.trod_int Tryd.underlying3 g1
      obtain ⟨a2, e2, f2, _⟩ := DataW.trod_int Tryd.underlying3 g2
      obtain ⟨a3, e3, f3, _⟩ := DataW.trod_int Tryd.underlying3 g3
      obtain ⟨a4, e4, f4, _⟩ := DataW.trod_int Tryd.underlying3 g4
      simp at e0 e1 e2 e3 e4
      subst e0 e1 e2 e3 e4 f0 f1 f2 f3 f4
      simp [Rows.laid_hopper_txn_most] at hx
      obtain ⟨⟨r0, r1, r2, r3, r4⟩, _⟩ := hx
      subst r0 r1 r2 r3 r4
      have z0 := World.var?_cell hg hvar 0
      have z1 := World.var?_cell hg hvar 1
      have z2 := World.var?_cell hg hvar 2
      have z3 := World.var?_cell hg hvar 3
      have z4 := World.var?_cell hg hvar 4
      have hz : 0 < W.heap.size := by
        rcases Nat.eq_zero_or_pos W.heap.size with h0 | h0
        · exfalso
          simp [World.cell?, Array.getElem?_eq_none (show W.heap.size ≤ 0 by omega)] at z0
        · exact h0
      exact ⟨by simpa using z0, by simpa using z1, by simpa using z2, by simpa using z3, by simpa using z4, hz⟩
end Go.Proofs.YtjhopkamfeadjaaDoor.txn
namespace Go.Proofs.YtjhopkamfeadjaaDoor.shardOrder
open Go.RowKit Sx txn queue greedy shard
set_option linter.unusedVariables false
set_option linter.unusedSimpArgs false
theorem rsmallA (s b : Int) (l : List Tx) (a : Option Addr) (n c : Nat) (w : World) (hs : Sl a n c) (hn : n = l.length) (hrow : At w (pt a n) (cellsL l)) :
    Calls Tryd.prog 20 (List.toArray [acc s b a n c]) w fun e w' => e = .returned (.bool (fewB l && decide ((n : Int) ≤ 30))) ∧ Below w.heap.size w w' := by
  refine calls_of_exec env_ok Tryd.func20 rfl [] (by kernel_rfl) [rowF (pt a n) (cellsL l)] (at1 hrow) ?_
  (conv => arg 5; whnf)
  refine meetc rfl (by kernel_rfl) (fun β ρ w' hM' => rfew l a n c 30 w' hs hn (hM'.at_ List.mem_cons_self)) ?_
  (conv => arg 5; whnf)
  exact wp_back fun β ρ w' hM' => ⟨rfl, hM'.below⟩
theorem rise_of : ∀ {L : List PA}, (∀ i x y, L[i]? = some x → L[i + 1]? = some y → x.1 < y.1) → L.Pairwise (fun a b => a.1 < b.1)
  | [], _ => List.Pairwise.nil
  | x :: L, h => by
    have ih := rise_of (L := L) fun i a b ha hb => h (i + 1) a b (by simpa using ha) (by simpa using hb)
    refine List.pairwise_cons.2 ⟨fun y hy => ?_, ih⟩
    cases L with
    | nil => cases hy
    | cons z L =>
      have h0 := h 0 x z rfl rfl
      rw [List.pairwise_cons] at ih
      rcases List.mem_cons.1 hy with rfl | hy
      · exact h0
      · have := ih.1 y hy; omega
theorem setE (v : Int) (L : List Ac) (R : List PA) (nv : Int) (a : Option Addr) (n c : Nat) (s b : Int) (l : List Tx) (a0 : Option Addr) (n0 c0 : Nat) (w : World) (hA : Acs w a n c L) (h1000 : n ≤ 100000) (hs0 : Sl a0 n0 c0) (hn0 : n0 = l.length) (hl0 : l.length ≤ 1000000) (hd0 : ∀ t ∈ l, t.d.size ≤ maxLen) (hrow0 : At w (pt a0 n0) (cellsL l)) (eR : setP (L.map acP) (s, b, l) = R) (en : nextV v = nv) :
    Calls Tryd.prog 21 (List.toArray [shV a n c v, acc s b a0 n0 c0]) w fun e w' => ∃ (i : One) (Ls : List Ac), Ls.map acP = R ∧ (∀ x ∈ Ls, x.fit) ∧ Sl i.1 Ls.length i.2 ∧ Gives w w' e (shV i.1 Ls.length i.2 nv) (acsF i.1 Ls.length Ls) := by
  subst eR en
  exact set v L a n c s b l a0 n0 c0 w hA h1000 hs0 hn0 hl0 hd0 hrow0
theorem len_set {Ls L : List Ac} {p : PA} (h : Ls.map acP = setP (L.map acP) p) : Ls.length ≤ L.length + 1 := by
  have h1 := congrArg List.length h
  have h2 := setP_le (L.map acP) p
  rw [List.length_map] at h1 h2
  omega
set_option maxHeartbeats 4000000 in
set_option maxRecDepth 100000 in
theorem walk (a : Option Addr) (n c : Nat) (L : List Ac) (v : Int) (s1 b1 : Int) (a1 : Option Addr) (n1 c1 : Nat) (l1 : List Tx) (s2 b2 : Int) (a2 : Option Addr) (n2 c2 : Nat) (l2 : List Tx) (w : World) (hM : Most w) (hI0 : AccsIn w a n c L ∧ Fits v)
    (h1 : Sl a1 n1 c1 ∧ n1 = l1.length ∧ At w (pt a1 n1) (cellsL l1) ∧ (∀ x ∈ l1, Tx.fits x) ∧ Fits s1 ∧ Fits b1) (h2 : Sl a2 n2 c2 ∧ n2 = l2.length ∧ At w (pt a2 n2) (cellsL l2) ∧ (∀ x ∈ l2, Tx.fits x) ∧ Fits s2 ∧ Fits b2) :
    Calls Tryd.prog 5 (List.toArray [shV a n c v, acc s1 b1 a1 n1 c1, acc s2 b2 a2 n2 c2]) w fun e w' => e = .returned (.bool true) ∧ Below w.heap.size w w' := by
  obtain ⟨hI, hfv⟩ := hI0
  obtain ⟨hs1, hn1, hr1, hf1, -, -⟩ := h1
  obtain ⟨hs2, hn2, hr2, hf2, -, -⟩ := h2
  have hd1 : ∀ t ∈ l1, t.d.size ≤ maxLen := fun t ht => (hf1 t ht).2.2.2.2.2
  have hd2 : ∀ t ∈ l2, t.d.size ≤ maxLen := fun t ht => (hf2 t ht).2.2.2.2.2
  refine calls_of_exec Sxs.env_ok.keeps Tryd.func5 rfl [(6, (line [0, 1, 2, 3, 4, 5, 6, 7, 8, 9, 10, 11, 12, 13], [])), (9, (.one 0 (.one 1 (.one 3 (.fork 2 (.fork 4 (.one 5 (.one 6 (.done))) 5 (.one 4 (.one 6 (.done)))) 5 (.one 2 (.one 4 (.one 6 (.done))))))), [])), (10, (.one 0 (.one 1 (.one 3 (.fork 2 (.fork 4 (.one 5 (.one 6 (.done))) 5 (.one 4 (.one 6 (.done)))) 5 (.one 2 (.one 4 (.one 6 (.done))))))), [])), (15, (line [0, 1, 2, 3, 4, 5, 6, 7, 8], []))] (schedQ_ok _ _ (by kernel_rfl)) (rowF (pt a1 n1) (cellsL l1) :: rowF (pt a2 n2) (cellsL l2) :: acsF a n L) (fun φ hφ g hg => by
    rcases List.mem_cons.1 hφ with rfl | hφ
    · exact hr1 g hg
    · rcases List.mem_cons.1 hφ with rfl | hφ
      · exact hr2 g hg
      · exact hI.facts φ hφ g hg) ?_
  have FW := fun w' (hM' : AccsIn w' a n c L) => fewW L 20 a n c w' hM'
  generalize hfb : (fewA L && decide ((n : Int) ≤ 20)) = fb at *
  have S1 := fun w hr => rsmallA s1 b1 l1 a1 n1 c1 w hs1 hn1 hr
  have S2 := fun w hr => rsmallA s2 b2 l2 a2 n2 c2 w hs2 hn2 hr
  generalize hsm1 : (fewB l1 && decide ((n1 : Int) ≤ 30)) = sm1 at *
  generalize hsm2 : (fewB l2 && decide ((n2 : Int) ≤ 30)) = sm2 at *
  (conv => arg 5; whnf)
  refine meetc (f := 7) (v := .bool fb) rfl (by kernel_rfl) (fun β ρ w' hM' => FW w' (hI.mem hM' fun φ hφ => .tail _ (.tail _ hφ))) ?_
  cases fb with
  | false =>
    (conv => arg 5; whnf)
    refine meetc (f := 8) (v := .bool true) rfl (by kernel_rfl) (fun β ρ w' hM' => shard.live w' (hM.later hM'.below)) ?_
    (conv => arg 5; whnf)
    exact wp_back fun β ρ w' hM' => ⟨rfl, hM'.below⟩
  | true =>
    (conv => arg 5; whnf)
    refine meetc (f := 20) (v := .bool sm1) rfl (by kernel_rfl) (fun β ρ w' hM' => S1 w' (hM'.at_ (.head _))) ?_
    cases sm1 with
    | false =>
      (conv => arg 5; whnf)
      refine meetc (f := 8) (v := .bool true) rfl (by kernel_rfl) (fun β ρ w' hM' => shard.live w' (hM.later hM'.below)) ?_
      (conv => arg 5; whnf)
      exact wp_back fun β ρ w' hM' => ⟨rfl, hM'.below⟩
    | true =>
      (conv => arg 5; whnf)
      refine meetc (f := 20) (v := .bool sm2) rfl (by kernel_rfl) (fun β ρ w' hM' => S2 w' (hM'.at_ (.tail _ (.head _)))) ?_
      cases sm2 with
      | false =>
        (conv => arg 5; whnf)
        refine meetc (f := 8) (v := .bool true) rfl (by kernel_rfl) (fun β ρ w' hM' => shard.live w' (hM.later hM'.below)) ?_
        (conv => arg 5; whnf)
        exact wp_back fun β ρ w' hM' => ⟨rfl, hM'.below⟩
      | true =>
        (conv => arg 5; whnf)
        refine wp_g0 (fun h3 => ?_) (fun h3 => ?_)
        rotate_left
        · skip
          (conv => arg 5; whnf)
          refine meetc (f := 8) (v := .bool true) rfl (by kernel_rfl) (fun β ρ w' hM' => shard.live w' (hM.later hM'.below)) ?_
          (conv => arg 5; whnf)
          exact wp_back fun β ρ w' hM' => ⟨rfl, hM'.below⟩
        have hv0 : 0 ≤ v := by have h4 : ¬ v < 0 := of_decide_eq_false h3; omega
        (conv => arg 5; whnf)
        refine wp_br (fun h4 => ?_) (fun h4 => ?_)
        · skip
          (conv => arg 5; whnf)
          refine meetc (f := 8) (v := .bool true) rfl (by kernel_rfl) (fun β ρ w' hM' => shard.live w' (hM.later hM'.below)) ?_
          (conv => arg 5; whnf)
          exact wp_back fun β ρ w' hM' => ⟨rfl, hM'.below⟩
        have hv1 : v ≤ 1099511627773 := by have h5 : ¬ 1099511627773 < v := of_decide_eq_false h4; omega
        clear h3 h4
        simp only [Bool.and_eq_true, decide_eq_true_eq] at hfb hsm1 hsm2
        obtain ⟨hA, hx20⟩ := hI.few hfb.1
        have hs := hI.1
        have hn := hI.2.1
        have hn20 : n ≤ 20 := by omega
        have hl1 : l1.length ≤ 1000000 := by omega
        have hl2 : l2.length ≤ 1000000 := by omega
        have nv1 : nextV v = v + 1 := if_neg (by omega)
        have nv2 : nextV (v + 1) = v + 2 := (if_neg (by omega)).trans (by omega)
        have nv3 : ∃ z, nextV (v + 2) = z := ⟨_, rfl⟩
        obtain ⟨z3, nv3⟩ := nv3
        (conv => arg 5; whnf)
        refine loop_rule Sxs.env_ok.keeps [(6, (line [0, 1, 2, 3, 4, 5, 6, 7, 8, 9, 10, 11, 12, 13], [])), (9, (.one 0 (.one 1 (.one 3 (.fork 2 (.fork 4 (.one 5 (.one 6 (.done))) 5 (.one 4 (.one 6 (.done)))) 5 (.one 2 (.one 4 (.one 6 (.done))))))), [])), (10, (.one 0 (.one 1 (.one 3 (.fork 2 (.fork 4 (.one 5 (.one 6 (.done))) 5 (.one 4 (.one 6 (.done)))) 5 (.one 2 (.one 4 (.one 6 (.done))))))), [])), (15, (line [0, 1, 2, 3, 4, 5, 6, 7, 8], []))] (schedQ_ok _ _ (by kernel_rfl)) (fun k : Nat => 1 ≤ k ∧ k ≤ n + 1 ∧ ∀ i x y, i + 1 < k → L[i]? = some x → L[i + 1]? = some y → x.s < y.s) (fun k => (⟨[some ([.v (.slice a n c), .v (.int .i64 v)], 26), some ([.v (.int .i64 s1), .v (.int .i64 b1), .v (.slice a1 n1 c1)], 46), some ([.v (.int .i64 s2), .v (.int .i64 b2), .v (.slice a2 n2 c2)], 46)], [], rowF (pt a1 n1) (cellsL l1) :: rowF (pt a2 n2) (cellsL l2) :: acsF a n L⟩, [.any, .any, .any, .p 0 0, .p 1 0, .p 2 0, .any, .v (.int .i64 k), .any, .any, .any, .any, .any, .any, .any, .any, .any, .any, .any, .any, .any, .any, .any, .any, .any, .any, .any, .any, .any, .any, .any, .any, .any, .any, .any, .any, .any, .any, .any, .any, .any, .any, .any, .any, .any, .any, .any, .any, .any, .any, .any, .any, .any, .any, .any, .any, .any, .any, .any, .any, .any, .any, .any, .any, .any, .any, .any, .any, .any, .any, .any, .any, .any, .any, .any, .any, .any, .any, .any, .any, .any, .any, .any, .any, .any, .any, .any, .any, .any, .any, .any, .any, .any, .any, .any, .any, .any, .any, .any, .any, .any, .any, .any, .any, .any, .any, .any, .any, .any, .any, .any, .any, .any])) (fun k => n + 1 - k) 1 ⟨Nat.le_refl _, by omega, fun i x y h => by omega⟩ ⟨by repeat' first | exact trivial | refine ⟨.inl rfl, ?_⟩ | refine ⟨.inr rfl, ?_⟩, ⟨by repeat' first | exact trivial | refine ⟨.inl rfl, ?_⟩ | refine ⟨.inr rfl, ?_⟩, by repeat' first | exact trivial | refine ⟨.inl rfl, ?_⟩ | refine ⟨.inr rfl, ?_⟩, fun _ h => h⟩, rfl⟩ ?_
        rintro k ⟨hk1, hk2, hkr⟩
        (conv => arg 5; whnf)
        refine wp_br (fun h3 => ?_) (fun h3 => ?_)
        · have hlt : k < n := by have h4 := of_decide_eq_true (show decide ((k : Int) < (n : Int)) = true from h3); omega
          obtain ⟨i, rfl⟩ : ∃ i, k = i + 1 := ⟨k - 1, by omega⟩
          obtain ⟨x, hx⟩ : ∃ x, L[i]? = some x := ⟨_, List.getElem?_eq_getElem (by omega)⟩
          obtain ⟨y, hy⟩ : ∃ y, L[i + 1]? = some y := ⟨_, List.getElem?_eq_getElem (by omega)⟩
          (conv => arg 5; whnf)
          refine wp_must ⟨by show -9223372036854775808 ≤ ((i + 1 : Nat) : Int) - 1; omega, by show ((i + 1 : Nat) : Int) - 1 ≤ 9223372036854775807; omega⟩ ?_
          (conv => arg 5; whnf)
          refine wp_must ⟨by show 0 ≤ ((i + 1 : Nat) : Int) - 1; omega, by show ((i + 1 : Nat) : Int) - 1 < (n : Int); omega, hs.some (show i < n by omega)⟩ ?_
          (conv => arg 5; whnf)
          refine readF (sz := 3) (k := i) (f := 0) (.int .i64 x.s) rfl (.tail _ (.tail _ (.head _))) (show i < n by omega) (hs.some (show i < n by omega)) (cellsA_at hx 0 _ rfl) (by rw [show (((i + 1 : Nat) : Int) - 1).toNat = i by omega]) ?_
          (conv => arg 5; whnf)
          refine wp_must ⟨by omega, by show ((i + 1 : Nat) : Int) < (n : Int); omega, hs.some hlt⟩ ?_
          (conv => arg 5; whnf)
          refine readF (sz := 3) (k := i + 1) (f := 0) (.int .i64 y.s) rfl (.tail _ (.tail _ (.head _))) hlt (hs.some hlt) (cellsA_at hy 0 _ rfl) rfl ?_
          (conv => arg 5; whnf)
          refine wp_br (fun h4 => ?_) (fun h4 => ?_)
          · skip
            (conv => arg 5; whnf)
            refine meetc (f := 8) (v := .bool true) rfl (by kernel_rfl) (fun β ρ w' hM' => shard.live w' (hM.later hM'.below)) ?_
            (conv => arg 5; whnf)
            exact wp_back fun β ρ w' hM' => ⟨rfl, hM'.below⟩
          have h5 : x.s < y.s := by have h6 : ¬ y.s ≤ x.s := of_decide_eq_false h4; omega
          (conv => arg 5; whnf)
          refine wp_must ⟨by show -9223372036854775808 ≤ ((i + 1 : Nat) : Int) + 1; omega, by show ((i + 1 : Nat) : Int) + 1 ≤ 9223372036854775807; omega⟩ ?_
          (conv => arg 5; whnf)
          refine wp_end ⟨i + 1 + 1, ⟨by omega, by omega, fun j p q hj hp hq => ?_⟩, ⟨by repeat' first | exact trivial | refine ⟨.inl rfl, ?_⟩ | refine ⟨.inr rfl, ?_⟩, ⟨by repeat' first | exact trivial | refine ⟨.inl rfl, ?_⟩ | refine ⟨.inr rfl, ?_⟩, by repeat' first | exact trivial | refine ⟨.inl rfl, ?_⟩ | refine ⟨.inr rfl, ?_⟩, fun _ h => h⟩, rfl⟩, by show n + 1 - (i + 1 + 1) < n + 1 - (i + 1); omega⟩
          by_cases hji : j = i
          · subst hji
            rw [hx] at hp; rw [hy] at hq
            cases hp; cases hq; exact h5
          · exact hkr j p q (by omega) hp hq
        have hrise : (L.map acP).Pairwise (fun x y => x.1 < y.1) := rise_of fun i x y hx hy => by
          have hkn : n ≤ k := by have h4 := of_decide_eq_false (show decide ((k : Int) < (n : Int)) = false from h3); omega
          rw [List.getElem?_map, Option.map_eq_some_iff] at hx hy
          obtain ⟨x, hx, rfl⟩ := hx
          obtain ⟨y, hy, rfl⟩ := hy
          have hi : i + 1 < L.length := (List.getElem?_eq_some_iff.1 hy).1
          exact hkr i x y (by omega) hx hy
        clear h3 hk1 hk2 hkr FW S1 S2
        have mA : ∀ {X : List Fact} {φ : Fact}, φ ∈ X → ∀ {Y}, φ ∈ X ++ Y := fun h _ => List.mem_append_left _ h
        (conv => arg 5; whnf)
        refine wp_both ?_ ?_
        all_goals
          (conv => arg 5; whnf)
          refine meetSh (f := 21) (setP (L.map acP) (s1, b1, l1)) (v + 1) rfl (by kernel_rfl) (fun β ρ w' hM' => setE v L _ _ a n c s1 b1 l1 a1 n1 c1 w' (Mem.acs hA hM' fun φ hφ => (show φ ∈ rowF (pt a1 n1) (cellsL l1) :: rowF (pt a2 n2) (cellsL l2) :: acsF a n L from .tail _ (.tail _ hφ))) (by omega) hs1 hn1 hl1 hd1 (hM'.at_ (show rowF (pt a1 n1) (cellsL l1) ∈ rowF (pt a1 n1) (cellsL l1) :: rowF (pt a2 n2) (cellsL l2) :: acsF a n L from .head _)) rfl nv1) (fun Lp up cup hLp hfp hup _ => ?_)
          (conv => arg 5; whnf)
        refine wp_both ?_ ?_
        all_goals
          (conv => arg 5; whnf)
          refine meetSh (f := 21) (setP (Lp.map acP) (s2, b2, l2)) (v + 2) rfl (by kernel_rfl) (fun β ρ w' hM' => setE (v + 1) Lp _ _ up Lp.length cup s2 b2 l2 a2 n2 c2 w' (acs_of hM' hup rfl hfp fun φ hφ => (show φ ∈ acsF up Lp.length Lp ++ (rowF (pt a1 n1) (cellsL l1) :: rowF (pt a2 n2) (cellsL l2) :: acsF a n L) from List.mem_append_left _ hφ)) (by have := len_set hLp; omega) hs2 hn2 hl2 hd2 (hM'.at_ (show rowF (pt a2 n2) (cellsL l2) ∈ acsF up Lp.length Lp ++ (rowF (pt a1 n1) (cellsL l1) :: rowF (pt a2 n2) (cellsL l2) :: acsF a n L) from List.mem_append_right _ (.tail _ (.head _)))) rfl nv2) (fun Ly uy cuy hLy hfy huy _ => ?_)
          (conv => arg 5; whnf)
          refine wp_both ?_ ?_
        all_goals
          (conv => arg 5; whnf)
          refine meetSh (f := 21) (setP (L.map acP) (s2, b2, l2)) (v + 1) rfl (by kernel_rfl) (fun β ρ w' hM' => setE v L _ _ a n c s2 b2 l2 a2 n2 c2 w' (Mem.acs hA hM' fun φ hφ => (show φ ∈ acsF uy Ly.length Ly ++ (acsF up Lp.length Lp ++ (rowF (pt a1 n1) (cellsL l1) :: rowF (pt a2 n2) (cellsL l2) :: acsF a n L)) from List.mem_append_right _ (List.mem_append_right _ (.tail _ (.tail _ hφ))))) (by omega) hs2 hn2 hl2 hd2 (hM'.at_ (show rowF (pt a2 n2) (cellsL l2) ∈ acsF uy Ly.length Ly ++ (acsF up Lp.length Lp ++ (rowF (pt a1 n1) (cellsL l1) :: rowF (pt a2 n2) (cellsL l2) :: acsF a n L)) from List.mem_append_right _ (List.mem_append_right _ (.tail _ (.head _))))) rfl nv1) (fun Lq uq cuq hLq hfq huq _ => ?_)
          (conv => arg 5; whnf)
          try refine wp_both ?_ ?_
        all_goals
          (conv => arg 5; whnf)
          refine meetSh (f := 21) (setP (Lq.map acP) (s1, b1, l1)) (v + 2) rfl (by kernel_rfl) (fun β ρ w' hM' => setE (v + 1) Lq _ _ uq Lq.length cuq s1 b1 l1 a1 n1 c1 w' (acs_of hM' huq rfl hfq fun φ hφ => (show φ ∈ acsF uq Lq.length Lq ++ (acsF uy Ly.length Ly ++ (acsF up Lp.length Lp ++ (rowF (pt a1 n1) (cellsL l1) :: rowF (pt a2 n2) (cellsL l2) :: acsF a n L))) from List.mem_append_left _ hφ)) (by have := len_set hLq; omega) hs1 hn1 hl1 hd1 (hM'.at_ (show rowF (pt a1 n1) (cellsL l1) ∈ acsF uq Lq.length Lq ++ (acsF uy Ly.length Ly ++ (acsF up Lp.length Lp ++ (rowF (pt a1 n1) (cellsL l1) :: rowF (pt a2 n2) (cellsL l2) :: acsF a n L))) from List.mem_append_right _ (List.mem_append_right _ (List.mem_append_right _ (.head _))))) rfl nv2) (fun Lz uz cuz hLz hfz huz _ => ?_)
          have hyl : Ly.length ≤ 30 := by have h5 := len_set hLp; have h6 := len_set hLy; omega
          (conv => arg 5; whnf)
          refine meetSh (f := 21) (setP (Ly.map acP) (s1, 0, [])) z3 rfl (by kernel_rfl) (fun β ρ w' hM' => setE (v + 2) Ly _ _ uy Ly.length cuy s1 0 [] none 0 0 w' (acs_of hM' huy rfl hfy fun φ hφ => (show φ ∈ acsF uz Lz.length Lz ++ (acsF uq Lq.length Lq ++ (acsF uy Ly.length Ly ++ (acsF up Lp.length Lp ++ (rowF (pt a1 n1) (cellsL l1) :: rowF (pt a2 n2) (cellsL l2) :: acsF a n L)))) from List.mem_append_right _ (List.mem_append_right _ (List.mem_append_left _ hφ)))) (by omega) shard.sl0 rfl (by simp) (by simp) (fun g hg => by cases hg) rfl nv3) (fun Lo uo co hLo hfo huo _ => ?_)
          have hol : Lo.length ≤ 40 := by have h7 := len_set hLo; omega
          have huo63 := huo.le
          have hmo : rowF (pt uo Lo.length) (cellsA Lo) ∈ acsF uo Lo.length Lo ++ (acsF uz Lz.length Lz ++ (acsF uq Lq.length Lq ++ (acsF uy Ly.length Ly ++ (acsF up Lp.length Lp ++ (rowF (pt a1 n1) (cellsL l1) :: rowF (pt a2 n2) (cellsL l2) :: acsF a n L))))) := List.mem_append_left _ (.head _)
          (conv => arg 5; whnf)
          refine loop_rule Sxs.env_ok.keeps [(6, (line [0, 1, 2, 3, 4, 5, 6, 7, 8, 9, 10, 11, 12, 13], [])), (9, (.one 0 (.one 1 (.one 3 (.fork 2 (.fork 4 (.one 5 (.one 6 (.done))) 5 (.one 4 (.one 6 (.done)))) 5 (.one 2 (.one 4 (.one 6 (.done))))))), [])), (10, (.one 0 (.one 1 (.one 3 (.fork 2 (.fork 4 (.one 5 (.one 6 (.done))) 5 (.one 4 (.one 6 (.done)))) 5 (.one 2 (.one 4 (.one 6 (.done))))))), [])), (15, (line [0, 1, 2, 3, 4, 5, 6, 7, 8], []))] (schedQ_ok _ _ (by kernel_rfl)) (fun k : Nat => k ≤ Lo.length) (fun k => (⟨[some ([.v (.slice a n c), .v (.int .i64 v)], 26), some ([.v (.int .i64 s1), .v (.int .i64 b1), .v (.slice a1 n1 c1)], 46), some ([.v (.int .i64 s2), .v (.int .i64 b2), .v (.slice a2 n2 c2)], 46), some ([.v (.slice a n c), .v (.int .i64 (v))], 48), some ([.v (.slice uy Ly.length cuy), .v (.int .i64 (v + 2))], 48), some ([.v (.slice uz Lz.length cuz), .v (.int .i64 (v + 2))], 48), some ([.v (.slice uo Lo.length co), .v (.int .i64 (z3))], 48)], [], acsF uo Lo.length Lo ++ (acsF uz Lz.length Lz ++ (acsF uq Lq.length Lq ++ (acsF uy Ly.length Ly ++ (acsF up Lp.length Lp ++ (rowF (pt a1 n1) (cellsL l1) :: rowF (pt a2 n2) (cellsL l2) :: acsF a n L)))))⟩, [.any, .any, .any, .p 0 0, .p 1 0, .p 2 0, .any, .any, .p 3 0, .p 4 0, .p 5 0, .p 6 0, .v (.int .i64 k), .any, .any, .any, .any, .any, .any, .any, .any, .any, .any, .any, .any, .any, .any, .any, .any, .any, .any, .any, .any, .any, .any, .any, .any, .any, .any, .any, .any, .any, .any, .any, .any, .any, .any, .any, .any, .any, .any, .any, .any, .any, .any, .any, .any, .any, .any, .any, .any, .any, .any, .any, .any, .any, .any, .any, .any, .any, .any, .any, .any, .any, .any, .any, .any, .any, .any, .any, .any, .any, .any, .any, .any, .any, .any, .any, .any, .any, .any, .any, .any, .any, .any, .any, .any, .any, .any, .any, .any, .any, .any, .any, .any, .any, .any, .any, .any, .any, .any, .any, .any])) (fun k => Lo.length - k) 0 (Nat.zero_le _) ⟨by repeat' first | exact trivial | refine ⟨.inl rfl, ?_⟩ | refine ⟨.inr rfl, ?_⟩, ⟨by repeat' first | exact trivial | refine ⟨.inl rfl, ?_⟩ | refine ⟨.inr rfl, ?_⟩, by repeat' first | exact trivial | refine ⟨.inl rfl, ?_⟩ | refine ⟨.inr rfl, ?_⟩, fun _ h => h⟩, rfl⟩ ?_
          intro k hk
          (conv => arg 5; whnf)
          refine wp_br (fun h3 => ?_) (fun h3 => ?_)
          · have hlt : k < Lo.length := by have h4 := of_decide_eq_true (show decide ((k : Int) < (Lo.length : Int)) = true from h3); omega
            obtain ⟨x, hx⟩ : ∃ x, Lo[k]? = some x := ⟨_, List.getElem?_eq_getElem hlt⟩
            have hne : x.s ≠ s1 := setP_none (Ly.map acP) s1 (acP x) (by rw [← hLo]; exact List.mem_map.2 ⟨x, List.mem_of_getElem? hx, rfl⟩)
            (conv => arg 5; whnf)
            refine wp_must ⟨by omega, by show (k : Int) < (Lo.length : Int); omega, huo.some hlt⟩ ?_
            (conv => arg 5; whnf)
            refine readF (sz := 3) (k := k) (f := 0) (.int .i64 x.s) rfl hmo hlt (huo.some hlt) (cellsA_at hx 0 _ rfl) rfl ?_
            (conv => arg 5; whnf)
            refine wp_br (fun h4 => by have h5 : (x.s == s1) = true := h4; exact absurd (beq_iff_eq.1 h5) hne) (fun h4 => ?_)
            (conv => arg 5; whnf)
            refine wp_must ⟨by show -9223372036854775808 ≤ (k : Int) + 1; omega, by show (k : Int) + 1 ≤ 9223372036854775807; omega⟩ ?_
            (conv => arg 5; whnf)
            refine wp_end ⟨k + 1, hlt, ⟨by repeat' first | exact trivial | refine ⟨.inl rfl, ?_⟩ | refine ⟨.inr rfl, ?_⟩, ⟨by repeat' first | exact trivial | refine ⟨.inl rfl, ?_⟩ | refine ⟨.inr rfl, ?_⟩, by repeat' first | exact trivial | refine ⟨.inl rfl, ?_⟩ | refine ⟨.inr rfl, ?_⟩, fun _ h => h⟩, rfl⟩, by show Lo.length - (k + 1) < Lo.length - k; omega⟩
          · clear h3 hk
            (conv => arg 5; whnf)
            refine wp_g0 (fun h4 => ?_) (fun h4 => ?_)
            · have hne : s1 ≠ s2 := fun e => by have h5 : (s1 == s2) = false := h4; rw [e] at h5; simp at h5
              have heq : Ly.map acP = Lz.map acP := by rw [hLy, hLz, hLp, hLq]; exact setP_swap _ _ hrise hne rise_eq
              (conv => arg 5; whnf)
              refine meetc (f := 22) (v := .bool true) rfl (by kernel_rfl) (fun β ρ w' hM' => rsame11 Ly Lz heq (v + 2) uy Ly.length cuy uz Lz.length cuz w' (acs_of hM' huy rfl hfy fun φ hφ => (show φ ∈ acsF uo Lo.length Lo ++ (acsF uz Lz.length Lz ++ (acsF uq Lq.length Lq ++ (acsF uy Ly.length Ly ++ (acsF up Lp.length Lp ++ (rowF (pt a1 n1) (cellsL l1) :: rowF (pt a2 n2) (cellsL l2) :: acsF a n L))))) from List.mem_append_right _ (List.mem_append_right _ (List.mem_append_right _ (List.mem_append_left _ hφ))))) (acs_of hM' huz rfl hfz fun φ hφ => (show φ ∈ acsF uo Lo.length Lo ++ (acsF uz Lz.length Lz ++ (acsF uq Lq.length Lq ++ (acsF uy Ly.length Ly ++ (acsF up Lp.length Lp ++ (rowF (pt a1 n1) (cellsL l1) :: rowF (pt a2 n2) (cellsL l2) :: acsF a n L))))) from List.mem_append_right _ (List.mem_append_left _ hφ)))) ?_
              (conv => arg 5; whnf)
              refine wp_must ⟨by omega, by omega⟩ ?_
              (conv => arg 5; whnf)
              refine wp_g1 (fun h6 => ?_) (fun h6 => by have h7 : (v + 2 == v + 2) = false := h6; simp at h7)
              (conv => arg 5; whnf)
              refine meetc (f := 8) (v := .bool true) rfl (by kernel_rfl) (fun β ρ w' hM' => shard.live w' (hM.later hM'.below)) ?_
              (conv => arg 5; whnf)
              exact wp_back fun β ρ w' hM' => ⟨rfl, hM'.below⟩
            · skip
              (conv => arg 5; whnf)
              refine wp_must ⟨by omega, by omega⟩ ?_
              (conv => arg 5; whnf)
              refine wp_g1 (fun h6 => ?_) (fun h6 => by have h7 : (v + 2 == v + 2) = false := h6; simp at h7)
              (conv => arg 5; whnf)
              refine meetc (f := 8) (v := .bool true) rfl (by kernel_rfl) (fun β ρ w' hM' => shard.live w' (hM.later hM'.below)) ?_
              (conv => arg 5; whnf)
              exact wp_back fun β ρ w' hM' => ⟨rfl, hM'.below⟩
end Go.Proofs.YtjhopkamfeadjaaDoor.shardOrder
namespace Go.Proofs.YtjhopkamfeadjaaDoor.shardOrder
open Go.ChangeShapes Go.WideShapes Go.ChangeAt Go.RowKit
open Go.ChangeMaps (open_string shut_string)
set_option linter.unusedVariables false

theorem own : ownKnob Tryd.prog.godebug = none := by kernel_rfl
theorem laidOut : laidOutB Tryd.prog = true := by kernel_rfl

/-- A world in which the list of bounds lies as it was laid. -/
noncomputable def laidWorld (os : Os) : World :=
  let w0 := World.holding Tryd.prog os ⟨#[], #[], []⟩
  { w0 with heap := w0.heap.modify 0 fun
      | .cells _ t frozen => .cells #[.int .i64 255, .int .i64 4294967295, .int .i64 1099511627776, .int .i64 1099511627776, .int .i64 1073741824] t frozen
      | o => o }
theorem laid_met (os : Os) (args : Array Value) : laidMet Tryd.prog Rows.shardOrderRow.laid ((laidWorld os).forCall (fun _ _ => 0) ⟨#[], args, []⟩).memory :=
  laidMet_of_run (ps := [.cell 0 0, .cell 0 1, .cell 0 2, .cell 0 3, .cell 0 4]) 8 (by kernel_rfl) (by kernel_rfl) (by kernel_rfl)

set_option maxRecDepth 100000 in
theorem lifted (os : Os) (started : os.Started) (H : Type) (enc : TypeId × Value → H) :
    ReturnsInHanded {} Tryd.checked os 5 .any (fun w args => (Rows.shardOrderSpec.pre enc Tryd.prog Tryd.f5 Rows.shardOrderRow.domain false w args ∧ laidMet Tryd.prog Rows.shardOrderRow.laid w) ∧ sizedMet enc Tryd.prog Tryd.f5 (OpenSpec.ofChange Rows.shardOrderSpec) false w args) (Rows.shardOrderSpec.post enc Tryd.prog Tryd.f5 false true false false) := by
  refine returnsInHanded_of_change_and (C := Tryd.checked) (X := fun w _ => laidMet Tryd.prog Rows.shardOrderRow.laid w) (fun _ _ _ hh h => h.of_heap hh) own started (by kernel_rfl) Tryd.func5
    (ChangeSpec.witness_at (enc := enc) (C := Tryd.checked) (os := os) (X := fun w _ => laidMet Tryd.prog Rows.shardOrderRow.laid w) false (laidWorld os) #[.agg #[.slice none 0 0, .int .i64 0], .agg #[.int .i64 0, .int .i64 0, .slice none 0 0], .agg #[.int .i64 0, .int .i64 0, .slice none 0 0]] 8 rfl (by kernel_rfl) (by kernel_rfl) (by kernel_rfl) (by kernel_rfl) (by kernel_rfl) (laid_met os _)) ?_
  intro W base args ds gs before hval0 hW hcnd _ hL _
  have hval : ∀ (j : Nat) t v, Tryd.f5.params[j]? = some t → args[j]? = some v → Value.okWide Tryd.prog W .any base t v := hval0
  have hW' := hW
  obtain ⟨p, q, hA0, hV, rfl, hfz, hnd⟩ := hW
  have hA : DataW.TrodAll enc Tryd.prog W 0 (fun _ => true) true Tryd.f5.params.toList args.toList ds p := hA0
  rw [Tryd.params5] at hA hval
  obtain ⟨v0, vs0, d0, ds0, p0, q0, hargs, rfl, rfl, h0, r0⟩ := trodAll_cons hA
  obtain ⟨v1, vs1, d1, ds1, p1, q1, rfl, rfl, rfl, h1, r1⟩ := trodAll_cons r0
  obtain ⟨v2, vs2, d2, ds2, p2, q2, rfl, rfl, rfl, h2, r2⟩ := trodAll_cons r1
  obtain ⟨rfl, rfl, rfl⟩ := trodAll_nil r2
  obtain rfl : args = #[v0, v1, v2] := by cases args; simp_all
  obtain ⟨rfl, rfl⟩ := trodVars_none hV
  have k0 := h0
  have lt0 : ∀ x ∈ p0, x.block < W.heap.size := by obtain ⟨m, hm⟩ := k0; exact DataW.trod_lt m _ _ _ hm
  obtain ⟨a0, n0, c0, l0, v0, rfl, f0⟩ := shard.open_shard (hval 0 26 v0 rfl rfl) h0
  have k1 := h1
  have lt1 : ∀ x ∈ p1, x.block < W.heap.size := by obtain ⟨m, hm⟩ := k1; exact DataW.trod_lt m _ _ _ hm
  obtain ⟨s1, b1, a1, n1, c1, l1, rfl, f1⟩ := queue.open_acc (hval 1 46 v1 rfl rfl) h1
  have k2 := h2
  have lt2 : ∀ x ∈ p2, x.block < W.heap.size := by obtain ⟨m, hm⟩ := k2; exact DataW.trod_lt m _ _ _ hm
  obtain ⟨s2, b2, a2, n2, c2, l2, rfl, f2⟩ := queue.open_acc (hval 2 46 v2 rfl rfl) h2
  clear hA0 hval0
  have hM : txn.Most W := txn.most_of_laid hL
  refine (walk a0 n0 c0 l0 v0 s1 b1 a1 n1 c1 l1 s2 b2 a2 n2 c2 l2 W hM f0 f1 f2).mono fun e W' ⟨he, bel⟩ => ?_
  subst he
  exact ⟨_, rfl, _, _, _, [], _, [], hW', trodAll_mk1 (shut_bool Tryd.underlying4 _), (trodAll_cons_mk (Below.trod laidOut (by kernel_rfl) (of_decide_eq_true (by kernel_rfl)) k0 bel lt0) (trodAll_cons_mk (Below.trod laidOut (by kernel_rfl) (of_decide_eq_true (by kernel_rfl)) k1 bel lt1) (trodAll_cons_mk (Below.trod laidOut (by kernel_rfl) (of_decide_eq_true (by kernel_rfl)) k2 bel lt2) trodAll_mk0))), rfl, bel.frame _, fun h => by cases h⟩

theorem over : Rows.ShardOrderSaid :=
  OpenClaim.holds_of_wide 5 Tryd.f5 rfl rfl rfl rfl rfl rfl rfl ⟨rfl, rfl, rfl, rfl, rfl⟩ rfl rfl rfl rfl rfl (by kernel_rfl) Tryd.func5 (by kernel_rfl)
    (of_decide_eq_true (by kernel_rfl)) (by unfold Func.isWrapper; first | (rw [if_pos (by decide +kernel)]; kernel_rfl) | (rw [if_neg (by decide +kernel)]; exact ⟨rfl, rfl⟩))
    (fun os started H enc _ => lifted os started H enc)

/-- THE STATEMENT. -/
theorem proved : Rows.ShardOrderCardSaid :=
  Claim7.holds_tied_plain_at .later [] [.data] true (true, "232ae9b689898a3150144e226dbef7ee7ee4e521089a7afbbdb41a0f3fa648a2") false
    over (fun _ h => by cases h) (by kernel_rfl) (fun _ h => by cases h) shardOrder_row_tie rfl ⟨rfl, rfl⟩ (by kernel_rfl) rfl
    (fun f fn hf hfn => by
      obtain rfl : f = 5 := (Option.some.inj ((show Tryd.prog.funcNamed "hopper/hopperlaw11.ShardOrder" = some 5 by kernel_rfl).symm.trans hf)).symm
      obtain rfl : fn = Tryd.f5 := (Option.some.inj (Tryd.func5.symm.trans hfn)).symm
      exact ⟨by kernel_rfl, fun j t ht => by
        rw [Tryd.params5] at ht
        match j, ht with
        | 0, ht =>
          obtain rfl : t = 26 := by simpa using ht.symm
          exact (show Tryd.prog.wantsStandIn 26 = false by kernel_rfl)
        | 1, ht =>
          obtain rfl : t = 46 := by simpa using ht.symm
          exact (show Tryd.prog.wantsStandIn 46 = false by kernel_rfl)
        | 2, ht =>
          obtain rfl : t = 46 := by simpa using ht.symm
          exact (show Tryd.prog.wantsStandIn 46 = false by kernel_rfl)
        | j + 3, ht => simp at ht⟩)
    (by kernel_rfl)
#print axioms proved
end Go.Proofs.YtjhopkamfeadjaaDoor.shardOrder
