/- hopper/hopperlaw12.GreedyTakes answers true at every input, and every argument reads behind the call as it read before; hopper/txn.most holds what the program's text lays there: the card ties it. No other condition. -/
import Derived.Test.YtohikebnlamnnaaDoorRows
import Derived.Test.YtohikebnlamnnaaDoorTxn
import Derived.OpenShut
import Derived.ChangeOld
import Derived.LaidLaws
import Derived.Test.YtohikebnlamnnaaDoorGreedyR
import Derived.Test.YtohikebnlamnnaaDoorCards
import Derived.Test.YtohikebnlamnnaaDoorTie
import Derived.Test.YtohikebnlamnnaaDoorGreedyAll
import Derived.WalkKit
import Derived.ProofKit
import Derived.ShutString
import Derived.Below
import Derived.Handed
import Derived.SevenTiedAt
namespace Go.Proofs.YtohikebnlamnnaaDoor.txn
open Go.RowKit Go.ChangeShapes Go.WideShapes
set_option linter.unusedVariables false

set_option maxRecDepth 100000 in
/-- From what is laid to the cells that Check reads. -/
theorem most_of_laid {W : World} (h : laidMet Tryd.prog [("hopper/txn.most", Rows.laid_hopper_txn_most)] W) : Most W := by
  obtain ⟨ps, ⟨g, t, cs, fuel, p, q, hg, ht, hvar, hd, _, _⟩, _⟩ := h
  obtain rfl := Option.some.inj ((show Tryd.prog.globalNamed "hopper/txn.most" = some 0 by kernel_rfl).symm.trans hg)
  obtain rfl := Option.some.inj ((show (Tryd.prog.globals[0]?).map (·.type) = some 135 by kernel_rfl).symm.trans ht)
  obtain ⟨xs, m, _, hx, hlen, hn, hi⟩ := DataW.trod_array Tryd.underlying135 hd
  have h5 : cs.toList.length = 5 := hlen.trans (by kernel_rfl)
  obtain ⟨l⟩ := cs
  match l, h5 with
  | [c0, c1, c2, c3, c4], _ =>
    match xs, hn with
    | [y0, y1, y2, y3, y4], _ =>
      have k3 : Tryd.prog.cellsOf 3 = 1 := by kernel_rfl
      have g0 := hi 0 (by omega)
      have g1 := hi 1 (by omega)
      have g2 := hi 2 (by omega)
      have g3 := hi 3 (by omega)
      have g4 := hi 4 (by omega)
      simp [k3] at g0 g1 g2 g3 g4
      obtain ⟨a0, e0, f0, _⟩ := DataW.trod_int Tryd.underlying3 g0
      obtain ⟨a1, e1, f1, _⟩ := DataW.trod_int Tryd.underlying3 g1
      obtain ⟨a2, e2, f2, _⟩ := DataW.trod_int Tryd.underlying3 g2
      obtain ⟨a3, e3, f3, _⟩ := DataW.trod_int Tryd.underlying3 g3
      obtain ⟨a4, e4, f4, _⟩ := DataW.trod_int Tryd.underlying3 g4
      simp at e0 e1 e2 e3 e4
      subst e0 e1 e2 e3 e4 f0 f1 f2 f3 f4
      simp [Rows.laid_hopper_txn_most] at hx
      obtain ⟨⟨r0, r1, r2, r3, r4⟩, _⟩ := hx
      subst r0 r1 r2 r3 r4
      have z0 := World.var?_cell hg hvar 0
      have z1 := World.var?_cell hg hvar 1
      have z2 := World.var?_cell hg hvar 2
      have z3 := World.var?_cell hg hvar 3
      have z4 := World.var?_cell hg hvar 4
      have hz : 0 < W.heap.size := by
        rcases Nat.eq_zero_or_pos W.heap.size with h0 | h0
        · exfalso
          simp [World.cell?, Array.getElem?_eq_none (show W.heap.size ≤ 0 by omega)] at z0
        · exact h0
      exact ⟨by simpa using z0, by simpa using z1, by simpa using z2, by simpa using z3, by simpa using z4, hz⟩
end Go.Proofs.YtohikebnlamnnaaDoor.txn
namespace Go.Proofs.YtohikebnlamnnaaDoor.greedyTakes
open Go.RowKit Sx txn queue greedy
set_option linter.unusedVariables false
set_option linter.unusedSimpArgs false
theorem nod_step {L : List Ac} {k : Nat} {x : Ac} (hx : L[k]? = some x) (h : ((L.take k).map (·.s)).Nodup) (hd : ∀ j y, j < k → L[j]? = some y → y.s ≠ x.s) : ((L.take (k + 1)).map (·.s)).Nodup := by
  rw [List.take_add_one, hx, List.map_append, List.nodup_append]
  refine ⟨h, by simp, fun a ha b hb e => ?_⟩
  simp at hb
  subst hb
  subst e
  obtain ⟨y, hy, hys⟩ := List.mem_map.1 ha
  obtain ⟨j, hj⟩ := List.getElem?_of_mem hy
  have hjk : j < k := by have := (List.getElem?_eq_some_iff.1 hj).1; rw [List.length_take] at this; omega
  rw [List.getElem?_take, if_pos hjk] at hj
  exact hd j y hjk hj hys
theorem sumG_take {l : List Tx} {i : Nat} {x : Tx} (h : l[i]? = some x) : sumG (l.take (i + 1)) = sumG (l.take i) + x.g := by
  rw [List.take_add_one, h, sumG_append]; unfold sumG; simp
theorem sumG_all {l : List Tx} (h : ∀ t ∈ l, 1 ≤ t.g) (i : Nat) : sumG (l.take i) ≤ sumG l := by
  have := sumG_pos (l := l.drop i) fun t ht => h t (List.mem_of_mem_drop ht)
  have h2 : sumG l = sumG (l.take i) + sumG (l.drop i) := by rw [← sumG_append, List.take_append_drop]
  omega
set_option maxHeartbeats 4000000 in
set_option maxRecDepth 100000 in
theorem walk (a : Option Addr) (n c : Nat) (L : List Ac) (gas : Int) (w : World) (hM : Most w) (hI : AccsIn w a n c L) (hgas : Fits gas) :
    Calls Tryd.prog 8 (List.toArray [.slice a n c, .int .i64 gas]) w fun e w' => e = .returned (.bool true) ∧ Below w.heap.size w w' := by
  have hG : -9223372036854775808 ≤ gas ∧ gas ≤ 9223372036854775807 := by unfold Fits at hgas; omega
  refine calls_of_exec env_ok.keeps Tryd.func8 rfl [(9, (line [0, 1, 2, 3, 4, 5, 6, 7, 8, 9, 10], [])), (30, (line [0, 1, 2, 3, 4, 5, 6, 7, 8, 9, 10], []))] (schedQ_ok _ _ (by kernel_rfl)) (acsF a n L) hI.facts ?_
  have FW := fun w' (hM' : AccsIn w' a n c L) => fewW L 20 a n c w' hM'
  generalize hfb : (fewA L && decide ((n : Int) ≤ 20)) = fb at *
  (conv => arg 5; whnf)
  refine meetc (f := 12) (v := .bool fb) rfl (by kernel_rfl) (fun β ρ w' hM' => FW w' (hI.mem hM' fun φ hφ => hφ)) ?_
  cases fb with
  | false =>
    (conv => arg 5; whnf)
    refine meetc (f := 30) (v := .bool true) rfl (by kernel_rfl) (fun β ρ w' hM' => live w' (hM.later hM'.below)) ?_
    (conv => arg 5; whnf)
    exact wp_back fun β ρ w' hM' => ⟨rfl, hM'.below⟩
  | true =>
    simp only [Bool.and_eq_true, decide_eq_true_eq] at hfb
    obtain ⟨hA, hx20⟩ := hI.few hfb.1
    have hs := hI.1
    have hn := hI.2.1
    have hn20 : n ≤ 20 := by omega
    (conv => arg 5; whnf)
    refine wp_br (fun h2 => ?_) (fun h2 => ?_)
    · (conv => arg 5; whnf)
      refine meetc (f := 30) (v := .bool true) rfl (by kernel_rfl) (fun β ρ w' hM' => live w' (hM.later hM'.below)) ?_
      (conv => arg 5; whnf)
      exact wp_back fun β ρ w' hM' => ⟨rfl, hM'.below⟩
    · have hg0 : 0 ≤ gas := by have h3 := of_decide_eq_false (show decide (gas < 0) = false from h2); omega
      clear h2
      (conv => arg 5; whnf)
      refine loop_rule env_ok.keeps [(9, (line [0, 1, 2, 3, 4, 5, 6, 7, 8, 9, 10], [])), (30, (line [0, 1, 2, 3, 4, 5, 6, 7, 8, 9, 10], []))] (schedQ_ok _ _ (by kernel_rfl)) (fun k : Nat => k ≤ n ∧ ((L.take k).map (·.s)).Nodup ∧ (∀ x ∈ L.take k, checkV x.s x.b 16 x.l = true)) (fun k => (⟨[], [], acsF a n L⟩, [.v (.slice a n c), .v (.int .i64 gas), .any, .any, .any, .v (.int .i64 k), .any, .any, .any, .any, .any, .any, .any, .any, .any, .any, .any, .any, .any, .any, .any, .any, .any, .any, .any, .any, .any, .any, .any, .any, .any, .any, .any, .any, .any, .any, .any, .any, .any, .any, .any, .any, .any, .any, .any, .any, .any, .any, .any, .any, .any, .any, .any, .any, .any, .any, .any, .any, .any, .any, .any, .any, .any, .any, .any, .any, .any, .any, .any, .any, .any, .any, .any, .any, .any, .any, .any, .any, .any, .any, .any, .any, .any, .any, .any, .any, .any, .any, .any, .any, .any, .any, .any, .any, .any, .any, .any, .any, .any, .any, .any, .any, .any, .any, .any, .any, .any, .any, .any, .any, .any, .any, .any, .any, .any, .any, .any, .any, .any, .any, .any, .any, .any, .any, .any, .any, .any, .any, .any, .any, .any, .any, .any, .any, .any, .any, .any, .any])) (fun k => n - k) 0 ⟨Nat.zero_le _, by simp, by simp⟩ ⟨by repeat' first | exact trivial | refine ⟨.inl rfl, ?_⟩ | refine ⟨.inr rfl, ?_⟩, ⟨by repeat' first | exact trivial | refine ⟨.inl rfl, ?_⟩ | refine ⟨.inr rfl, ?_⟩, by repeat' first | exact trivial | refine ⟨.inl rfl, ?_⟩ | refine ⟨.inr rfl, ?_⟩, fun _ h => h⟩, rfl⟩ ?_
      rintro k ⟨hk, hnd, hck⟩
      (conv => arg 5; whnf)
      refine wp_br (fun h1 => ?_) (fun h1 => ?_)
      · have hlt : k < n := by have h3 := of_decide_eq_true (show decide ((k : Int) < (n : Int)) = true from h1); omega
        obtain ⟨x, hx⟩ : ∃ x, L[k]? = some x := ⟨_, List.getElem?_eq_getElem (by omega)⟩
        have hxm : x ∈ L := List.mem_of_getElem? hx
        obtain ⟨⟨xs, xn, xl, xd⟩, _⟩ := hA.2.2.2 x hxm
        (conv => arg 5; whnf)
        refine loop_rule env_ok.keeps [(9, (line [0, 1, 2, 3, 4, 5, 6, 7, 8, 9, 10], [])), (30, (line [0, 1, 2, 3, 4, 5, 6, 7, 8, 9, 10], []))] (schedQ_ok _ _ (by kernel_rfl)) (fun j : Nat => j ≤ k ∧ ∀ i y, i < j → L[i]? = some y → y.s ≠ x.s) (fun j => (⟨[], [], acsF a n L⟩, [.v (.slice a n c), .v (.int .i64 gas), .any, .any, .any, .v (.int .i64 k), .v (.int .i64 j), .any, .any, .any, .any, .any, .any, .any, .any, .any, .any, .any, .any, .any, .any, .any, .any, .any, .any, .any, .any, .any, .any, .any, .any, .any, .any, .any, .any, .any, .any, .any, .any, .any, .any, .any, .any, .any, .any, .any, .any, .any, .any, .any, .any, .any, .any, .any, .any, .any, .any, .any, .any, .any, .any, .any, .any, .any, .any, .any, .any, .any, .any, .any, .any, .any, .any, .any, .any, .any, .any, .any, .any, .any, .any, .any, .any, .any, .any, .any, .any, .any, .any, .any, .any, .any, .any, .any, .any, .any, .any, .any, .any, .any, .any, .any, .any, .any, .any, .any, .any, .any, .any, .any, .any, .any, .any, .any, .any, .any, .any, .any, .any, .any, .any, .any, .any, .any, .any, .any, .any, .any, .any, .any, .any, .any, .any, .any, .any, .any, .any, .any])) (fun j => k - j) 0 ⟨Nat.zero_le _, fun i y hi => by omega⟩ ⟨by repeat' first | exact trivial | refine ⟨.inl rfl, ?_⟩ | refine ⟨.inr rfl, ?_⟩, ⟨by repeat' first | exact trivial | refine ⟨.inl rfl, ?_⟩ | refine ⟨.inr rfl, ?_⟩, by repeat' first | exact trivial | refine ⟨.inl rfl, ?_⟩ | refine ⟨.inr rfl, ?_⟩, fun _ h => h⟩, rfl⟩ ?_
        rintro j ⟨hj, hdj⟩
        (conv => arg 5; whnf)
        refine wp_br (fun h4 => ?_) (fun h4 => ?_)
        · have hjk : j < k := by have h3 := of_decide_eq_true (show decide ((j : Int) < (k : Int)) = true from h4); omega
          obtain ⟨y, hy⟩ : ∃ y, L[j]? = some y := ⟨_, List.getElem?_eq_getElem (by omega)⟩
          (conv => arg 5; whnf)
          refine wp_must ⟨by omega, by show (j : Int) < (n : Int); omega, hs.some hlt⟩ ?_
          (conv => arg 5; whnf)
          refine readA (.int .i64 y.s) (L := L) (k := j) (f := 0) rfl (.head _) (by omega) (hs.some hlt) hy rfl rfl ?_
          (conv => arg 5; whnf)
          refine wp_must ⟨by omega, by show (k : Int) < (n : Int); omega, hs.some hlt⟩ ?_
          (conv => arg 5; whnf)
          refine readA (.int .i64 x.s) (L := L) (k := k) (f := 0) rfl (.head _) hlt (hs.some hlt) hx rfl rfl ?_
          (conv => arg 5; whnf)
          refine wp_br (fun h5 => ?_) (fun h5 => ?_)
          · (conv => arg 5; whnf)
            refine meetc (f := 30) (v := .bool true) rfl (by kernel_rfl) (fun β ρ w' hM' => live w' (hM.later hM'.below)) ?_
            (conv => arg 5; whnf)
            exact wp_back fun β ρ w' hM' => ⟨rfl, hM'.below⟩
          · have hne : y.s ≠ x.s := fun e => by have h6 : (y.s == x.s) = false := h5; rw [e] at h6; simp at h6
            (conv => arg 5; whnf)
            refine wp_must ⟨by show -9223372036854775808 ≤ (j : Int) + 1; omega, by show (j : Int) + 1 ≤ 9223372036854775807; omega⟩ ?_
            (conv => arg 5; whnf)
            refine wp_end ⟨j + 1, ⟨hjk, fun i z hi hz => by by_cases e : i = j; (subst e; rw [hy] at hz; cases hz; exact hne); exact hdj i z (by omega) hz⟩, ⟨by repeat' first | exact trivial | refine ⟨.inl rfl, ?_⟩ | refine ⟨.inr rfl, ?_⟩, ⟨by repeat' first | exact trivial | refine ⟨.inl rfl, ?_⟩ | refine ⟨.inr rfl, ?_⟩, by repeat' first | exact trivial | refine ⟨.inl rfl, ?_⟩ | refine ⟨.inr rfl, ?_⟩, fun _ h => h⟩, rfl⟩, by show k - (j + 1) < k - j; omega⟩
        · have hjk : j = k := by have h3 := of_decide_eq_false (show decide ((j : Int) < (k : Int)) = false from h4); omega
          subst hjk
          have hnd2 := nod_step hx hnd (fun i y hi hy => hdj i y hi hy)
          have CK := fun w hM hr => rcheck_ x.s x.b 16 x.l x.a x.n x.c w hM xs xn hr
          have hck2 : checkV x.s x.b 16 x.l = true → ∀ z ∈ L.take (j + 1), checkV z.s z.b 16 z.l = true := fun h z hz => by
            rw [List.take_add_one, hx] at hz
            rcases List.mem_append.1 hz with hz | hz
            · exact hck z hz
            · simp at hz; subst hz; exact h
          generalize checkV x.s x.b 16 x.l = ck at *
          (conv => arg 5; whnf)
          refine wp_must ⟨by omega, by show (j : Int) < (n : Int); omega, hs.some hlt⟩ ?_
          (conv => arg 5; whnf)
          refine readS (vs := x.cs) (sz := 3) (k := j) rfl rfl (.head _) hlt (hs.some hlt) (cellsA_at hx) rfl ?_
          (conv => arg 5; whnf)
          refine meetc (f := 39) (v := .bool ck) rfl (by kernel_rfl) (fun β ρ w' hM' => CK w' (hM.later hM'.below) (hM'.at_ (.tail _ (List.mem_map.2 ⟨x, hxm, rfl⟩)))) ?_
          cases ck with
          | false =>
            (conv => arg 5; whnf)
            refine meetc (f := 30) (v := .bool true) rfl (by kernel_rfl) (fun β ρ w' hM' => live w' (hM.later hM'.below)) ?_
            (conv => arg 5; whnf)
            exact wp_back fun β ρ w' hM' => ⟨rfl, hM'.below⟩
          | true =>
            (conv => arg 5; whnf)
            refine wp_must ⟨by show -9223372036854775808 ≤ (j : Int) + 1; omega, by show (j : Int) + 1 ≤ 9223372036854775807; omega⟩ ?_
            (conv => arg 5; whnf)
            refine wp_end ⟨j + 1, ⟨hlt, hnd2, hck2 rfl⟩, ⟨by repeat' first | exact trivial | refine ⟨.inl rfl, ?_⟩ | refine ⟨.inr rfl, ?_⟩, ⟨by repeat' first | exact trivial | refine ⟨.inl rfl, ?_⟩ | refine ⟨.inr rfl, ?_⟩, by repeat' first | exact trivial | refine ⟨.inl rfl, ?_⟩ | refine ⟨.inr rfl, ?_⟩, fun _ h => h⟩, rfl⟩, by show n - (j + 1) < n - j; omega⟩
      · have hkn : k = n := by have h3 := of_decide_eq_false (show decide ((k : Int) < (n : Int)) = false from h1); omega
        have e : L.take k = L := List.take_of_length_le (by omega)
        rw [e] at hnd hck
        clear h1 hk
        have hgd : GoodL L := ⟨hnd, hck⟩
        have hTl : (templateV L gas).length ≤ 400 := tpl_le hx20 (by omega) gas
        have hsum : sumG (templateV L gas) ≤ gas := tpl_gas _ _ hg0
        have hpos : ∀ t ∈ templateV L gas, 1 ≤ t.g := fun t ht => by rw [hgd.tmpl] at ht; exact (tpl_costs hgd.costs t ht).1
        have hparts : ∀ (i : Nat) (x : Ac), L[i]? = some x → ofV (templateV L gas) x.s <+: readyV x.b x.l ∧ ∀ z r, readyV x.b x.l = ofV (templateV L gas) x.s ++ z :: r → gas - sumG (templateV L gas) < z.g := fun i x hx => by
          have h5 := tpl_parts (sOf L) L.length hgd.inj (rdys L) gas hgd.labels hgd.costs i (List.getElem?_eq_some_iff.1 hx).1
          rw [rdys_get hx, show sOf L i = x.s from by unfold sOf; rw [hx]] at h5
          rw [hgd.tmpl]; exact h5
        have hfol := hgd.follows gas
        have P1 := fun w hM hA => template L gas a n c w hM hA (by omega) hG (by omega)
        have O1 := fun q cq w hM hA hs hr => follows L (templateV L gas) a n c q (templateV L gas).length cq w hM hA (by omega) hs rfl hr
        rw [hfol] at O1
        generalize templateV L gas = pv at *
        (conv => arg 5; whnf)
        refine meet1F (f := 35) (n := pv.length) (v := fun a1 c1 => .slice a1 pv.length c1) (xs := cellsL pv) rfl (by kernel_rfl) (fun β ρ w' hM' => P1 w' (hM.later hM'.below) (Mem.acs hA hM' fun φ hφ => hφ)) (fun q c_q h_q f_q => ?_)
        have e0 : gas = gas - sumG (pv.take 0) := by unfold sumG; simp
        (conv => arg 5; whnf)
        refine loop_rule env_ok.keeps [(9, (line [0, 1, 2, 3, 4, 5, 6, 7, 8, 9, 10], [])), (30, (line [0, 1, 2, 3, 4, 5, 6, 7, 8, 9, 10], []))] (schedQ_ok _ _ (by kernel_rfl)) (fun i : Nat => i ≤ pv.length) (fun i => (⟨[], [], rowF (pt q pv.length) (cellsL pv) :: acsF a n L⟩, [.v (.slice a n c), .any, .any, .any, .any, .any, .any, .v (.slice q pv.length c_q), .v (.int .i64 (gas - sumG (pv.take i))), .v (.int .i64 i), .any, .any, .any, .any, .any, .any, .any, .any, .any, .any, .any, .any, .any, .any, .any, .any, .any, .any, .any, .any, .any, .any, .any, .any, .any, .any, .any, .any, .any, .any, .any, .any, .any, .any, .any, .any, .any, .any, .any, .any, .any, .any, .any, .any, .any, .any, .any, .any, .any, .any, .any, .any, .any, .any, .any, .any, .any, .any, .any, .any, .any, .any, .any, .any, .any, .any, .any, .any, .any, .any, .any, .any, .any, .any, .any, .any, .any, .any, .any, .any, .any, .any, .any, .any, .any, .any, .any, .any, .any, .any, .any, .any, .any, .any, .any, .any, .any, .any, .any, .any, .any, .any, .any, .any, .any, .any, .any, .any, .any, .any, .any, .any, .any, .any, .any, .any, .any, .any, .any, .any, .any, .any, .any, .any, .any, .any, .any, .any])) (fun i => pv.length - i) 0 (Nat.zero_le _) ⟨by repeat' first | exact trivial | refine ⟨.inl rfl, ?_⟩ | refine ⟨.inr rfl, ?_⟩ | refine ⟨.inr (congrArg (fun z => Sx.T.v (.int .i64 z)) e0), ?_⟩ | refine ⟨.inr (congrArg (fun z => Sx.T.v (.int .i64 z)) e0.symm), ?_⟩, ⟨by repeat' first | exact trivial | refine ⟨.inl rfl, ?_⟩ | refine ⟨.inr rfl, ?_⟩ | refine ⟨.inr (congrArg (fun z => Sx.T.v (.int .i64 z)) e0), ?_⟩ | refine ⟨.inr (congrArg (fun z => Sx.T.v (.int .i64 z)) e0.symm), ?_⟩, by repeat' first | exact trivial | refine ⟨.inl rfl, ?_⟩ | refine ⟨.inr rfl, ?_⟩ | refine ⟨.inr (congrArg (fun z => Sx.T.v (.int .i64 z)) e0), ?_⟩ | refine ⟨.inr (congrArg (fun z => Sx.T.v (.int .i64 z)) e0.symm), ?_⟩, fun _ h => h⟩, rfl⟩ ?_
        intro i hi
        (conv => arg 5; whnf)
        refine wp_br (fun h1 => ?_) (fun h1 => ?_)
        · have hlt : i < pv.length := by have h3 := of_decide_eq_true (show decide ((i : Int) < (pv.length : Int)) = true from h1); omega
          have hx := nx_get (l := pv) (i := i) (by omega)
          have h1g := hpos _ (nx_mem (l := pv) (i := i) (by omega))
          have hst := sumG_take hx
          have hle := sumG_all hpos (i + 1)
          have hle0 := sumG_pos (l := pv.take i) fun t ht => hpos t (List.mem_of_mem_take ht)
          generalize nx pv i = x at *
          have e0 : gas - sumG (pv.take i) - x.g = gas - sumG (pv.take (i + 1)) := by omega
          (conv => arg 5; whnf)
          refine wp_must ⟨by omega, by show (i : Int) < (pv.length : Int); omega, h_q.some hlt⟩ ?_
          (conv => arg 5; whnf)
          refine read1 (.int .i64 x.g) (l := pv) (k := i) rfl (.head _) hlt (h_q.some hlt) hx (f := 4) rfl rfl ?_
          (conv => arg 5; whnf)
          refine wp_g0 (fun h5 => ?_) (fun h5 => by have h6 := of_decide_eq_true (show decide (x.g < 1) = true from h5); omega)
          (conv => arg 5; whnf)
          refine wp_must ⟨by omega, by show (i : Int) < (pv.length : Int); omega, h_q.some hlt⟩ ?_
          (conv => arg 5; whnf)
          refine read1 (.int .i64 x.g) (l := pv) (k := i) rfl (.head _) hlt (h_q.some hlt) hx (f := 4) rfl rfl ?_
          (conv => arg 5; whnf)
          refine wp_br (fun h6 => by have h7 := of_decide_eq_true (show decide (gas - sumG (pv.take i) < x.g) = true from h6); omega) (fun h6 => ?_)
          (conv => arg 5; whnf)
          refine wp_must ⟨by omega, by show (i : Int) < (pv.length : Int); omega, h_q.some hlt⟩ ?_
          (conv => arg 5; whnf)
          refine read1 (.int .i64 x.g) (l := pv) (k := i) rfl (.head _) hlt (h_q.some hlt) hx (f := 4) rfl rfl ?_
          (conv => arg 5; whnf)
          refine wp_must ⟨by show -9223372036854775808 ≤ gas - sumG (pv.take i) - x.g; omega, by show gas - sumG (pv.take i) - x.g ≤ 9223372036854775807; omega⟩ ?_
          (conv => arg 5; whnf)
          refine wp_must ⟨by show -9223372036854775808 ≤ (i : Int) + 1; omega, by show (i : Int) + 1 ≤ 9223372036854775807; omega⟩ ?_
          (conv => arg 5; whnf)
          refine wp_end ⟨i + 1, hlt, ⟨by repeat' first | exact trivial | refine ⟨.inl rfl, ?_⟩ | refine ⟨.inr rfl, ?_⟩ | refine ⟨.inr (congrArg (fun z => Sx.T.v (.int .i64 z)) e0), ?_⟩ | refine ⟨.inr (congrArg (fun z => Sx.T.v (.int .i64 z)) e0.symm), ?_⟩, ⟨by repeat' first | exact trivial | refine ⟨.inl rfl, ?_⟩ | refine ⟨.inr rfl, ?_⟩ | refine ⟨.inr (congrArg (fun z => Sx.T.v (.int .i64 z)) e0), ?_⟩ | refine ⟨.inr (congrArg (fun z => Sx.T.v (.int .i64 z)) e0.symm), ?_⟩, by repeat' first | exact trivial | refine ⟨.inl rfl, ?_⟩ | refine ⟨.inr rfl, ?_⟩ | refine ⟨.inr (congrArg (fun z => Sx.T.v (.int .i64 z)) e0), ?_⟩ | refine ⟨.inr (congrArg (fun z => Sx.T.v (.int .i64 z)) e0.symm), ?_⟩, fun _ h => h⟩, rfl⟩, by show pv.length - (i + 1) < pv.length - i; omega⟩
        · have hkn : i = pv.length := by have h3 := of_decide_eq_false (show decide ((i : Int) < (pv.length : Int)) = false from h1); omega
          have e : pv.take i = pv := List.take_of_length_le (by omega)
          rw [e]
          clear e0
          (conv => arg 5; whnf)
          refine meetc (f := 37) (v := .bool true) rfl (by kernel_rfl) (fun β ρ w' hM' => O1 q c_q w' (hM.later hM'.below) (Mem.acs hA hM' fun φ hφ => .tail _ (hφ)) h_q (hM'.at_ (.head _))) ?_
          (conv => arg 5; whnf)
          refine loop_rule env_ok.keeps [(9, (line [0, 1, 2, 3, 4, 5, 6, 7, 8, 9, 10], [])), (30, (line [0, 1, 2, 3, 4, 5, 6, 7, 8, 9, 10], []))] (schedQ_ok _ _ (by kernel_rfl)) (fun m : Nat => m ≤ n) (fun m => (⟨[], [], rowF (pt q pv.length) (cellsL pv) :: acsF a n L⟩, [.v (.slice a n c), .any, .any, .any, .any, .any, .any, .v (.slice q pv.length c_q), .v (.int .i64 (gas - sumG pv)), .any, .v (.int .i64 m), .any, .any, .any, .any, .any, .any, .any, .any, .any, .any, .any, .any, .any, .any, .any, .any, .any, .any, .any, .any, .any, .any, .any, .any, .any, .any, .any, .any, .any, .any, .any, .any, .any, .any, .any, .any, .any, .any, .any, .any, .any, .any, .any, .any, .any, .any, .any, .any, .any, .any, .any, .any, .any, .any, .any, .any, .any, .any, .any, .any, .any, .any, .any, .any, .any, .any, .any, .any, .any, .any, .any, .any, .any, .any, .any, .any, .any, .any, .any, .any, .any, .any, .any, .any, .any, .any, .any, .any, .any, .any, .any, .any, .any, .any, .any, .any, .any, .any, .any, .any, .any, .any, .any, .any, .any, .any, .any, .any, .any, .any, .any, .any, .any, .any, .any, .any, .any, .any, .any, .any, .any, .any, .any, .any, .any, .any, .any])) (fun m => n - m) 0 (Nat.zero_le _) ⟨by repeat' first | exact trivial | refine ⟨.inl rfl, ?_⟩ | refine ⟨.inr rfl, ?_⟩, ⟨by repeat' first | exact trivial | refine ⟨.inl rfl, ?_⟩ | refine ⟨.inr rfl, ?_⟩, by repeat' first | exact trivial | refine ⟨.inl rfl, ?_⟩ | refine ⟨.inr rfl, ?_⟩, fun _ h => h⟩, rfl⟩ ?_
          clear h1 hi
          intro m hm
          (conv => arg 5; whnf)
          refine wp_br (fun h1 => ?_) (fun h1 => ?_)
          · have hlt : m < n := by have h3 := of_decide_eq_true (show decide ((m : Int) < (n : Int)) = true from h1); omega
            obtain ⟨x, hx⟩ : ∃ x, L[m]? = some x := ⟨_, List.getElem?_eq_getElem (by omega)⟩
            have hxm : x ∈ L := List.mem_of_getElem? hx
            obtain ⟨⟨xs, xn, xl, xd⟩, _⟩ := hA.2.2.2 x hxm
            obtain ⟨hp1, hp2⟩ := hparts m x hx
            (conv => arg 5; whnf)
            refine loop_rule env_ok.keeps [(9, (line [0, 1, 2, 3, 4, 5, 6, 7, 8, 9, 10], [])), (30, (line [0, 1, 2, 3, 4, 5, 6, 7, 8, 9, 10], []))] (schedQ_ok _ _ (by kernel_rfl)) (fun j : Nat => j ≤ pv.length) (fun j => (⟨[], [], rowF (pt q pv.length) (cellsL pv) :: acsF a n L⟩, [.v (.slice a n c), .any, .any, .any, .any, .any, .any, .v (.slice q pv.length c_q), .v (.int .i64 (gas - sumG pv)), .any, .v (.int .i64 m), .v (.int .i64 (ofV (pv.take j) x.s).length), .v (.int .i64 j), .any, .any, .any, .any, .any, .any, .any, .any, .any, .any, .any, .any, .any, .any, .any, .any, .any, .any, .any, .any, .any, .any, .any, .any, .any, .any, .any, .any, .any, .any, .any, .any, .any, .any, .any, .any, .any, .any, .any, .any, .any, .any, .any, .any, .any, .any, .any, .any, .any, .any, .any, .any, .any, .any, .any, .any, .any, .any, .any, .any, .any, .any, .any, .any, .any, .any, .any, .any, .any, .any, .any, .any, .any, .any, .any, .any, .any, .any, .any, .any, .any, .any, .any, .any, .any, .any, .any, .any, .any, .any, .any, .any, .any, .any, .any, .any, .any, .any, .any, .any, .any, .any, .any, .any, .any, .any, .any, .any, .any, .any, .any, .any, .any, .any, .any, .any, .any, .any, .any, .any, .any, .any, .any, .any, .any])) (fun j => pv.length - j) 0 (Nat.zero_le _) ⟨by repeat' first | exact trivial | refine ⟨.inl rfl, ?_⟩ | refine ⟨.inr rfl, ?_⟩, ⟨by repeat' first | exact trivial | refine ⟨.inl rfl, ?_⟩ | refine ⟨.inr rfl, ?_⟩, by repeat' first | exact trivial | refine ⟨.inl rfl, ?_⟩ | refine ⟨.inr rfl, ?_⟩, fun _ h => h⟩, rfl⟩ ?_
            intro j hj
            (conv => arg 5; whnf)
            refine wp_br (fun h4 => ?_) (fun h4 => ?_)
            · have hjl : j < pv.length := by have h3 := of_decide_eq_true (show decide ((j : Int) < (pv.length : Int)) = true from h4); omega
              have hy := nx_get (l := pv) (i := j) (by omega)
              have hot := ofV_take (s := x.s) hy
              have hle := ofV_le (pv.take j) x.s
              rw [List.length_take] at hle
              generalize nx pv j = y at *
              (conv => arg 5; whnf)
              refine wp_must ⟨by omega, by show (j : Int) < (pv.length : Int); omega, h_q.some hjl⟩ ?_
              (conv => arg 5; whnf)
              refine read1 (.int .i64 y.s) (l := pv) (k := j) rfl (.head _) hjl (h_q.some hjl) hy (f := 0) rfl rfl ?_
              (conv => arg 5; whnf)
              refine wp_must ⟨by omega, by show (m : Int) < (n : Int); omega, hs.some hlt⟩ ?_
              (conv => arg 5; whnf)
              refine readA (.int .i64 x.s) (L := L) (k := m) (f := 0) rfl (.tail _ (.head _)) hlt (hs.some hlt) hx rfl rfl ?_
              (conv => arg 5; whnf)
              refine wp_br (fun h5 => ?_) (fun h5 => ?_)
              · rw [if_pos h5] at hot
                have e0 : ((ofV (pv.take j) x.s).length : Int) + 1 = ((ofV (pv.take (j + 1)) x.s).length : Int) := by rw [hot]; simp
                (conv => arg 5; whnf)
                refine wp_must ⟨by omega, by omega⟩ ?_
                (conv => arg 5; whnf)
                refine wp_must ⟨by show -9223372036854775808 ≤ (j : Int) + 1; omega, by show (j : Int) + 1 ≤ 9223372036854775807; omega⟩ ?_
                (conv => arg 5; whnf)
                refine wp_end ⟨j + 1, hjl, ⟨by repeat' first | exact trivial | refine ⟨.inl rfl, ?_⟩ | refine ⟨.inr rfl, ?_⟩ | refine ⟨.inr (congrArg (fun z => Sx.T.v (.int .i64 z)) e0), ?_⟩ | refine ⟨.inr (congrArg (fun z => Sx.T.v (.int .i64 z)) e0.symm), ?_⟩, ⟨by repeat' first | exact trivial | refine ⟨.inl rfl, ?_⟩ | refine ⟨.inr rfl, ?_⟩ | refine ⟨.inr (congrArg (fun z => Sx.T.v (.int .i64 z)) e0), ?_⟩ | refine ⟨.inr (congrArg (fun z => Sx.T.v (.int .i64 z)) e0.symm), ?_⟩, by repeat' first | exact trivial | refine ⟨.inl rfl, ?_⟩ | refine ⟨.inr rfl, ?_⟩ | refine ⟨.inr (congrArg (fun z => Sx.T.v (.int .i64 z)) e0), ?_⟩ | refine ⟨.inr (congrArg (fun z => Sx.T.v (.int .i64 z)) e0.symm), ?_⟩, fun _ h => h⟩, rfl⟩, by show pv.length - (j + 1) < pv.length - j; omega⟩
              · rw [if_neg (by rw [h5]; simp), List.append_nil] at hot
                have e0 : ((ofV (pv.take j) x.s).length : Int) = ((ofV (pv.take (j + 1)) x.s).length : Int) := by rw [hot]
                (conv => arg 5; whnf)
                refine wp_must ⟨by show -9223372036854775808 ≤ (j : Int) + 1; omega, by show (j : Int) + 1 ≤ 9223372036854775807; omega⟩ ?_
                (conv => arg 5; whnf)
                refine wp_end ⟨j + 1, hjl, ⟨by repeat' first | exact trivial | refine ⟨.inl rfl, ?_⟩ | refine ⟨.inr rfl, ?_⟩ | refine ⟨.inr (congrArg (fun z => Sx.T.v (.int .i64 z)) e0), ?_⟩ | refine ⟨.inr (congrArg (fun z => Sx.T.v (.int .i64 z)) e0.symm), ?_⟩, ⟨by repeat' first | exact trivial | refine ⟨.inl rfl, ?_⟩ | refine ⟨.inr rfl, ?_⟩ | refine ⟨.inr (congrArg (fun z => Sx.T.v (.int .i64 z)) e0), ?_⟩ | refine ⟨.inr (congrArg (fun z => Sx.T.v (.int .i64 z)) e0.symm), ?_⟩, by repeat' first | exact trivial | refine ⟨.inl rfl, ?_⟩ | refine ⟨.inr rfl, ?_⟩ | refine ⟨.inr (congrArg (fun z => Sx.T.v (.int .i64 z)) e0), ?_⟩ | refine ⟨.inr (congrArg (fun z => Sx.T.v (.int .i64 z)) e0.symm), ?_⟩, fun _ h => h⟩, rfl⟩, by show pv.length - (j + 1) < pv.length - j; omega⟩
            · have hjl : j = pv.length := by have h3 := of_decide_eq_false (show decide ((j : Int) < (pv.length : Int)) = false from h4); omega
              have e : pv.take j = pv := List.take_of_length_le (by omega)
              rw [e]
              have RD := fun w hr => rready x.s x.b x.l x.a x.n x.c w xs xn hr (by omega)
              generalize readyV x.b x.l = rv at *
              generalize ofV pv x.s = ov at *
              have hol := hp1.length_le
              (conv => arg 5; whnf)
              refine wp_must ⟨by omega, by show (m : Int) < (n : Int); omega, hs.some hlt⟩ ?_
              (conv => arg 5; whnf)
              refine readS (vs := x.cs) (sz := 3) (k := m) rfl rfl (.tail _ (.head _)) hlt (hs.some hlt) (cellsA_at hx) rfl ?_
              (conv => arg 5; whnf)
              refine meet1F (f := 40) (n := rv.length) (v := fun a1 c1 => .slice a1 rv.length c1) (xs := cellsL rv) rfl (by kernel_rfl) (fun β ρ w' hM' => RD w' (hM'.at_ (.tail _ (.tail _ (List.mem_map.2 ⟨x, hxm, rfl⟩))))) (fun p c_p h_p f_p => ?_)
              (conv => arg 5; whnf)
              refine wp_g0 (fun h5 => ?_) (fun h5 => by have h6 := of_decide_eq_true (show decide ((rv.length : Int) < (ov.length : Int)) = true from h5); omega)
              (conv => arg 5; whnf)
              refine wp_g1 (fun h6 => ?_) (fun h6 => ?_)
              · have h7 : ov.length < rv.length := by have h8 := of_decide_eq_true (show decide ((ov.length : Int) < (rv.length : Int)) = true from h6); omega
                have hz := nx_get h7
                have hzg : gas - sumG pv < (nx rv ov.length).g := by
                  refine hp2 _ (rv.drop (ov.length + 1)) ?_
                  obtain ⟨h9, h10⟩ := List.getElem?_eq_some_iff.1 hz
                  have h11 := List.prefix_iff_eq_take.1 hp1
                  rw [← h10, ← List.drop_eq_getElem_cons h9]
                  conv => lhs; rw [← List.take_append_drop ov.length rv]
                  rw [← h11]
                generalize nx rv ov.length = z at *
                (conv => arg 5; whnf)
                refine wp_must ⟨by omega, by show (ov.length : Int) < (rv.length : Int); omega, h_p.some h7⟩ ?_
                (conv => arg 5; whnf)
                refine read1 (.int .i64 z.g) (l := rv) (k := ov.length) rfl (.head _) h7 (h_p.some h7) hz (f := 4) rfl rfl ?_
                (conv => arg 5; whnf)
                refine wp_br (fun h8 => by have h9 := of_decide_eq_true (show decide (z.g ≤ gas - sumG pv) = true from h8); omega) (fun h8 => ?_)
                (conv => arg 5; whnf)
                refine wp_must ⟨by show -9223372036854775808 ≤ (m : Int) + 1; omega, by show (m : Int) + 1 ≤ 9223372036854775807; omega⟩ ?_
                (conv => arg 5; whnf)
                refine wp_end ⟨m + 1, hlt, ⟨by repeat' first | exact trivial | refine ⟨.inl rfl, ?_⟩ | refine ⟨.inr rfl, ?_⟩, ⟨by repeat' first | exact trivial | refine ⟨.inl rfl, ?_⟩ | refine ⟨.inr rfl, ?_⟩, by repeat' first | exact trivial | refine ⟨.inl rfl, ?_⟩ | refine ⟨.inr rfl, ?_⟩, fun _ h => .tail _ h⟩, rfl⟩, by show n - (m + 1) < n - m; omega⟩
              · (conv => arg 5; whnf)
                refine wp_must ⟨by show -9223372036854775808 ≤ (m : Int) + 1; omega, by show (m : Int) + 1 ≤ 9223372036854775807; omega⟩ ?_
                (conv => arg 5; whnf)
                refine wp_end ⟨m + 1, hlt, ⟨by repeat' first | exact trivial | refine ⟨.inl rfl, ?_⟩ | refine ⟨.inr rfl, ?_⟩, ⟨by repeat' first | exact trivial | refine ⟨.inl rfl, ?_⟩ | refine ⟨.inr rfl, ?_⟩, by repeat' first | exact trivial | refine ⟨.inl rfl, ?_⟩ | refine ⟨.inr rfl, ?_⟩, fun _ h => .tail _ h⟩, rfl⟩, by show n - (m + 1) < n - m; omega⟩
          · (conv => arg 5; whnf)
            refine meetc (f := 30) (v := .bool true) rfl (by kernel_rfl) (fun β ρ w' hM' => live w' (hM.later hM'.below)) ?_
            (conv => arg 5; whnf)
            exact wp_back fun β ρ w' hM' => ⟨rfl, hM'.below⟩
end Go.Proofs.YtohikebnlamnnaaDoor.greedyTakes
namespace Go.Proofs.YtohikebnlamnnaaDoor.greedyTakes
open Go.ChangeShapes Go.WideShapes Go.ChangeAt Go.RowKit
open Go.ChangeMaps (open_string shut_string)
set_option linter.unusedVariables false

theorem own : ownKnob Tryd.prog.godebug = none := by kernel_rfl
theorem laidOut : laidOutB Tryd.prog = true := by kernel_rfl

/-- A world in which the list of bounds lies as it was laid. -/
noncomputable def laidWorld (os : Os) : World :=
  let w0 := World.holding Tryd.prog os ⟨#[], #[], []⟩
  { w0 with heap := w0.heap.modify 0 fun
      | .cells _ t frozen => .cells #[.int .i64 255, .int .i64 4294967295, .int .i64 1099511627776, .int .i64 1099511627776, .int .i64 1073741824] t frozen
      | o => o }
theorem laid_met (os : Os) (args : Array Value) : laidMet Tryd.prog Rows.greedyTakesRow.laid ((laidWorld os).forCall (fun _ _ => 0) ⟨#[], args, []⟩).memory :=
  laidMet_of_run (ps := [.cell 0 0, .cell 0 1, .cell 0 2, .cell 0 3, .cell 0 4]) 8 (by kernel_rfl) (by kernel_rfl) (by kernel_rfl)

set_option maxRecDepth 100000 in
theorem lifted (os : Os) (started : os.Started) (H : Type) (enc : TypeId × Value → H) :
    ReturnsInHanded {} Tryd.checked os 8 .any (fun w args => (Rows.greedyTakesSpec.pre enc Tryd.prog Tryd.f8 Rows.greedyTakesRow.domain false w args ∧ laidMet Tryd.prog Rows.greedyTakesRow.laid w) ∧ sizedMet enc Tryd.prog Tryd.f8 (OpenSpec.ofChange Rows.greedyTakesSpec) false w args) (Rows.greedyTakesSpec.post enc Tryd.prog Tryd.f8 false true false false) := by
  refine returnsInHanded_of_change_and (C := Tryd.checked) (X := fun w _ => laidMet Tryd.prog Rows.greedyTakesRow.laid w) (fun _ _ _ hh h => h.of_heap hh) own started (by kernel_rfl) Tryd.func8
    (ChangeSpec.witness_at (enc := enc) (C := Tryd.checked) (os := os) (X := fun w _ => laidMet Tryd.prog Rows.greedyTakesRow.laid w) false (laidWorld os) #[.slice none 0 0, .int .i64 0] 8 rfl (by kernel_rfl) (by kernel_rfl) (by kernel_rfl) (by kernel_rfl) (by kernel_rfl) (laid_met os _)) ?_
  intro W base args ds gs before hval0 hW hcnd _ hL _
  have hval : ∀ (j : Nat) t v, Tryd.f8.params[j]? = some t → args[j]? = some v → Value.okWide Tryd.prog W .any base t v := hval0
  have hW' := hW
  obtain ⟨p, q, hA0, hV, rfl, hfz, hnd⟩ := hW
  have hA : DataW.TrodAll enc Tryd.prog W 0 (fun _ => true) true Tryd.f8.params.toList args.toList ds p := hA0
  rw [Tryd.params8] at hA hval
  obtain ⟨v0, vs0, d0, ds0, p0, q0, hargs, rfl, rfl, h0, r0⟩ := trodAll_cons hA
  obtain ⟨v1, vs1, d1, ds1, p1, q1, rfl, rfl, rfl, h1, r1⟩ := trodAll_cons r0
  obtain ⟨rfl, rfl, rfl⟩ := trodAll_nil r1
  obtain rfl : args = #[v0, v1] := by cases args; simp_all
  obtain ⟨rfl, rfl⟩ := trodVars_none hV
  have k0 := h0
  have lt0 : ∀ x ∈ p0, x.block < W.heap.size := by obtain ⟨m, hm⟩ := k0; exact DataW.trod_lt m _ _ _ hm
  obtain ⟨a0, n0, c0, l0, rfl, f0⟩ := greedy.open_accs (hval 0 24 v0 rfl rfl) h0
  have k1 := h1
  have lt1 : ∀ x ∈ p1, x.block < W.heap.size := by obtain ⟨m, hm⟩ := k1; exact DataW.trod_lt m _ _ _ hm
  obtain ⟨z1, rfl, f1⟩ := queue.open_fit (hval 1 3 v1 rfl rfl) h1
  clear hA0 hval0
  have hM : txn.Most W := txn.most_of_laid hL
  refine (walk a0 n0 c0 l0 z1 W hM f0 f1).mono fun e W' ⟨he, bel⟩ => ?_
  subst he
  exact ⟨_, rfl, _, _, _, [], _, [], hW', trodAll_mk1 (shut_bool Tryd.underlying4 _), (trodAll_cons_mk (Below.trod laidOut (by kernel_rfl) (of_decide_eq_true (by kernel_rfl)) k0 bel lt0) (trodAll_cons_mk (Below.trod laidOut (by kernel_rfl) (of_decide_eq_true (by kernel_rfl)) k1 bel lt1) trodAll_mk0)), rfl, bel.frame _, fun h => by cases h⟩

theorem over : Rows.GreedyTakesSaid :=
  OpenClaim.holds_of_wide 8 Tryd.f8 rfl rfl rfl rfl rfl rfl rfl ⟨rfl, rfl, rfl, rfl, rfl⟩ rfl rfl rfl rfl rfl (by kernel_rfl) Tryd.func8 (by kernel_rfl)
    (of_decide_eq_true (by kernel_rfl)) (by unfold Func.isWrapper; first | (rw [if_pos (by decide +kernel)]; kernel_rfl) | (rw [if_neg (by decide +kernel)]; exact ⟨rfl, rfl⟩))
    (fun os started H enc _ => lifted os started H enc)

/-- THE STATEMENT. -/
theorem proved : Rows.GreedyTakesCardSaid :=
  Claim7.holds_tied_plain_at .later [] [.data] true (true, "720f6701ae90a052211e6470d7d286ec70df9faa60d1833d35a594b593cda112") false
    over (fun _ h => by cases h) (by kernel_rfl) (fun _ h => by cases h) greedyTakes_row_tie rfl ⟨rfl, rfl⟩ (by kernel_rfl) rfl
    (fun f fn hf hfn => by
      obtain rfl : f = 8 := (Option.some.inj ((show Tryd.prog.funcNamed "hopper/hopperlaw12.GreedyTakes" = some 8 by kernel_rfl).symm.trans hf)).symm
      obtain rfl : fn = Tryd.f8 := (Option.some.inj (Tryd.func8.symm.trans hfn)).symm
      exact ⟨by kernel_rfl, fun j t ht => by
        rw [Tryd.params8] at ht
        match j, ht with
        | 0, ht =>
          obtain rfl : t = 24 := by simpa using ht.symm
          exact (show Tryd.prog.wantsStandIn 24 = false by kernel_rfl)
        | 1, ht =>
          obtain rfl : t = 3 := by simpa using ht.symm
          exact (show Tryd.prog.wantsStandIn 3 = false by kernel_rfl)
        | j + 2, ht => simp at ht⟩)
    (by kernel_rfl)
#print axioms proved
end Go.Proofs.YtohikebnlamnnaaDoor.greedyTakes
