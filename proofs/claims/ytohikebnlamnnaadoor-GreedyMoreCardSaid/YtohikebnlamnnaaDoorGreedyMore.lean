/- hopper/hopperlaw12.GreedyMore answers true at every input, and every argument reads behind the call as it read before; hopper/txn.most holds what the program's text lays there: the card ties it. No other condition. -/
import Derived.Test.YtohikebnlamnnaaDoorRows
import Derived.Test.YtohikebnlamnnaaDoorTxn
import Derived.OpenShut
import Derived.ChangeOld
import Derived.LaidLaws
import Derived.Test.YtohikebnlamnnaaDoorGreedyR
import Derived.Test.YtohikebnlamnnaaDoorCards
import Derived.Test.YtohikebnlamnnaaDoorTie
import Derived.Test.YtohikebnlamnnaaDoorGreedyAll
import Derived.WalkKit
import Derived.ProofKit
import Derived.ShutString
import Derived.Below
import Derived.Handed
import Derived.SevenTiedAt
namespace Go.Proofs.YtohikebnlamnnaaDoor.txn
open Go.RowKit Go.ChangeShapes Go.WideShapes
set_option linter.unusedVariables false

set_option maxRecDepth 100000 in
/-- From what is laid to the cells that Check reads. -/
theorem most_of_laid {W : World} (h : laidMet Tryd.prog [("hopper/txn.most", Rows.laid_hopper_txn_most)] W) : Most W := by
  obtain ⟨ps, ⟨g, t, cs, fuel, p, q, hg, ht, hvar, hd, _, _⟩, _⟩ := h
  obtain rfl := Option.some.inj ((show Tryd.prog.globalNamed "hopper/txn.most" = some 0 by kernel_rfl).symm.trans hg)
  obtain rfl := Option.some.inj ((show (Tryd.prog.globals[0]?).map (·.type) = some 135 by kernel_rfl).symm.trans ht)
  obtain ⟨xs, m, _, hx, hlen, hn, hi⟩ := DataW.trod_array Tryd.underlying135 hd
  have h5 : cs.toList.length = 5 := hlen.trans (by kernel_rfl)
  obtain ⟨l⟩ := cs
  match l, h5 with
  | [c0, c1, c2, c3, c4], _ =>
    match xs, hn with
    | [y0, y1, y2, y3, y4], _ =>
      have k3 : Tryd.prog.cellsOf 3 = 1 := by kernel_rfl
      have g0 := hi 0 (by omega)
      have g1 := hi 1 (by omega)
      have g2 := hi 2 (by omega)
      have g3 := hi 3 (by omega)
      have g4 := hi 4 (by omega)
      simp [k3] at g0 g1 g2 g3 g4
      obtain ⟨a0, e0, f0, _⟩ := DataW.trod_int Tryd.underlying3 g0
      obtain ⟨a1, e1, f1, _⟩ := DataW.trod_int Tryd.underlying3 g1
      obtain ⟨a2, e2, f2, _⟩ := DataW.trod_int Tryd.underlying3 g2
      obtain ⟨a3, e3, f3, _⟩ := DataW.trod_int Tryd.underlying3 g3
      obtain ⟨a4, e4, f4, _⟩ := DataW.trod_int Tryd.underlying3 g4
      simp at e0 e1 e2 e3 e4
      subst e0 e1 e2 e3 e4 f0 f1 f2 f3 f4
      simp [Rows.laid_hopper_txn_most] at hx
      obtain ⟨⟨r0, r1, r2, r3, r4⟩, _⟩ := hx
      subst r0 r1 r2 r3 r4
      have z0 := World.var?_cell hg hvar 0
      have z1 := World.var?_cell hg hvar 1
      have z2 := World.var?_cell hg hvar 2
      have z3 := World.var?_cell hg hvar 3
      have z4 := World.var?_cell hg hvar 4
      have hz : 0 < W.heap.size := by
        rcases Nat.eq_zero_or_pos W.heap.size with h0 | h0
        · exfalso
          simp [World.cell?, Array.getElem?_eq_none (show W.heap.size ≤ 0 by omega)] at z0
        · exact h0
      exact ⟨by simpa using z0, by simpa using z1, by simpa using z2, by simpa using z3, by simpa using z4, hz⟩
end Go.Proofs.YtohikebnlamnnaaDoor.txn
namespace Go.Proofs.YtohikebnlamnnaaDoor.greedyMore
open Go.RowKit Sx txn queue greedy
set_option linter.unusedVariables false
set_option linter.unusedSimpArgs false
theorem nod_step {L : List Ac} {k : Nat} {x : Ac} (hx : L[k]? = some x) (h : ((L.take k).map (·.s)).Nodup) (hd : ∀ j y, j < k → L[j]? = some y → y.s ≠ x.s) : ((L.take (k + 1)).map (·.s)).Nodup := by
  rw [List.take_add_one, hx, List.map_append, List.nodup_append]
  refine ⟨h, by simp, fun a ha b hb e => ?_⟩
  simp at hb
  subst hb
  subst e
  obtain ⟨y, hy, hys⟩ := List.mem_map.1 ha
  obtain ⟨j, hj⟩ := List.getElem?_of_mem hy
  have hjk : j < k := by have := (List.getElem?_eq_some_iff.1 hj).1; rw [List.length_take] at this; omega
  rw [List.getElem?_take, if_pos hjk] at hj
  exact hd j y hjk hj hys
set_option maxHeartbeats 4000000 in
set_option maxRecDepth 100000 in
theorem walk (a : Option Addr) (n c : Nat) (L : List Ac) (w : World) (hM : Most w) (hI : AccsIn w a n c L) :
    Calls Tryd.prog 9 (List.toArray [.slice a n c]) w fun e w' => e = .returned (.bool true) ∧ Below w.heap.size w w' := by
  refine calls_of_exec env_ok.keeps Tryd.func9 rfl [(10, (line [0, 1, 2, 3, 4, 5, 6, 7, 8, 9, 10], [])), (21, (line [0, 1, 2, 3, 4, 5, 6, 7, 8, 9, 10, 11, 12, 13, 14, 15, 16, 17, 18, 19, 20, 21, 22, 23], []))] (schedQ_ok _ _ (by kernel_rfl)) (acsF a n L) hI.facts ?_
  have FW := fun w' (hM' : AccsIn w' a n c L) => fewW L 20 a n c w' hM'
  generalize hfb : (fewA L && decide ((n : Int) ≤ 20)) = fb at *
  (conv => arg 5; whnf)
  refine meetc (f := 12) (v := .bool fb) rfl (by kernel_rfl) (fun β ρ w' hM' => FW w' (hI.mem hM' fun φ hφ => hφ)) ?_
  cases fb with
  | false =>
    (conv => arg 5; whnf)
    refine meetc (f := 30) (v := .bool true) rfl (by kernel_rfl) (fun β ρ w' hM' => live w' (hM.later hM'.below)) ?_
    (conv => arg 5; whnf)
    exact wp_back fun β ρ w' hM' => ⟨rfl, hM'.below⟩
  | true =>
    simp only [Bool.and_eq_true, decide_eq_true_eq] at hfb
    obtain ⟨hA, hx20⟩ := hI.few hfb.1
    have hs := hI.1
    have hn := hI.2.1
    have hn20 : n ≤ 20 := by omega
    (conv => arg 5; whnf)
    refine loop_rule env_ok.keeps [(10, (line [0, 1, 2, 3, 4, 5, 6, 7, 8, 9, 10], [])), (21, (line [0, 1, 2, 3, 4, 5, 6, 7, 8, 9, 10, 11, 12, 13, 14, 15, 16, 17, 18, 19, 20, 21, 22, 23], []))] (schedQ_ok _ _ (by kernel_rfl)) (fun k : Nat => k ≤ n ∧ ((L.take k).map (·.s)).Nodup ∧ (∀ x ∈ L.take k, checkV x.s x.b 16 x.l = true)) (fun k => (⟨[], [], acsF a n L⟩, [.v (.slice a n c), .any, .any, .v (.int .i64 (sizeL (rdys (L.take k)) : Nat)), .v (.int .i64 k), .any, .any, .any, .any, .any, .any, .any, .any, .any, .any, .any, .any, .any, .any, .any, .any, .any, .any, .any, .any, .any, .any, .any, .any, .any, .any, .any, .any, .any, .any, .any, .any, .any, .any, .any, .any, .any, .any, .any, .any, .any, .any, .any, .any, .any, .any, .any, .any, .any, .any, .any, .any, .any, .any, .any, .any, .any, .any, .any, .any, .any, .any, .any, .any, .any, .any, .any, .any, .any, .any, .any, .any, .any, .any, .any, .any, .any, .any, .any, .any, .any, .any, .any, .any, .any, .any, .any, .any, .any])) (fun k => n - k) 0 ⟨Nat.zero_le _, by simp, by simp⟩ ⟨by repeat' first | exact trivial | refine ⟨.inl rfl, ?_⟩ | refine ⟨.inr rfl, ?_⟩, ⟨by repeat' first | exact trivial | refine ⟨.inl rfl, ?_⟩ | refine ⟨.inr rfl, ?_⟩, by repeat' first | exact trivial | refine ⟨.inl rfl, ?_⟩ | refine ⟨.inr rfl, ?_⟩, fun _ h => h⟩, rfl⟩ ?_
    rintro k ⟨hk, hnd, hck⟩
    (conv => arg 5; whnf)
    refine wp_br (fun h1 => ?_) (fun h1 => ?_)
    · have hlt : k < n := by have h3 := of_decide_eq_true (show decide ((k : Int) < (n : Int)) = true from h1); omega
      obtain ⟨x, hx⟩ : ∃ x, L[k]? = some x := ⟨_, List.getElem?_eq_getElem (by omega)⟩
      have hxm : x ∈ L := List.mem_of_getElem? hx
      obtain ⟨⟨xs, xn, xl, xd⟩, _⟩ := hA.2.2.2 x hxm
      (conv => arg 5; whnf)
      refine loop_rule env_ok.keeps [(10, (line [0, 1, 2, 3, 4, 5, 6, 7, 8, 9, 10], [])), (21, (line [0, 1, 2, 3, 4, 5, 6, 7, 8, 9, 10, 11, 12, 13, 14, 15, 16, 17, 18, 19, 20, 21, 22, 23], []))] (schedQ_ok _ _ (by kernel_rfl)) (fun j : Nat => j ≤ k ∧ ∀ i y, i < j → L[i]? = some y → y.s ≠ x.s) (fun j => (⟨[], [], acsF a n L⟩, [.v (.slice a n c), .any, .any, .v (.int .i64 (sizeL (rdys (L.take k)) : Nat)), .v (.int .i64 k), .v (.int .i64 j), .any, .any, .any, .any, .any, .any, .any, .any, .any, .any, .any, .any, .any, .any, .any, .any, .any, .any, .any, .any, .any, .any, .any, .any, .any, .any, .any, .any, .any, .any, .any, .any, .any, .any, .any, .any, .any, .any, .any, .any, .any, .any, .any, .any, .any, .any, .any, .any, .any, .any, .any, .any, .any, .any, .any, .any, .any, .any, .any, .any, .any, .any, .any, .any, .any, .any, .any, .any, .any, .any, .any, .any, .any, .any, .any, .any, .any, .any, .any, .any, .any, .any, .any, .any, .any, .any, .any, .any])) (fun j => k - j) 0 ⟨Nat.zero_le _, fun i y hi => by omega⟩ ⟨by repeat' first | exact trivial | refine ⟨.inl rfl, ?_⟩ | refine ⟨.inr rfl, ?_⟩, ⟨by repeat' first | exact trivial | refine ⟨.inl rfl, ?_⟩ | refine ⟨.inr rfl, ?_⟩, by repeat' first | exact trivial | refine ⟨.inl rfl, ?_⟩ | refine ⟨.inr rfl, ?_⟩, fun _ h => h⟩, rfl⟩ ?_
      rintro j ⟨hj, hdj⟩
      (conv => arg 5; whnf)
      refine wp_br (fun h4 => ?_) (fun h4 => ?_)
      · have hjk : j < k := by have h3 := of_decide_eq_true (show decide ((j : Int) < (k : Int)) = true from h4); omega
        obtain ⟨y, hy⟩ : ∃ y, L[j]? = some y := ⟨_, List.getElem?_eq_getElem (by omega)⟩
        (conv => arg 5; whnf)
        refine wp_must ⟨by omega, by show (j : Int) < (n : Int); omega, hs.some hlt⟩ ?_
        (conv => arg 5; whnf)
        refine readA (.int .i64 y.s) (L := L) (k := j) (f := 0) rfl (.head _) (by omega) (hs.some hlt) hy rfl rfl ?_
        (conv => arg 5; whnf)
        refine wp_must ⟨by omega, by show (k : Int) < (n : Int); omega, hs.some hlt⟩ ?_
        (conv => arg 5; whnf)
        refine readA (.int .i64 x.s) (L := L) (k := k) (f := 0) rfl (.head _) hlt (hs.some hlt) hx rfl rfl ?_
        (conv => arg 5; whnf)
        refine wp_br (fun h5 => ?_) (fun h5 => ?_)
        · (conv => arg 5; whnf)
          refine meetc (f := 30) (v := .bool true) rfl (by kernel_rfl) (fun β ρ w' hM' => live w' (hM.later hM'.below)) ?_
          (conv => arg 5; whnf)
          exact wp_back fun β ρ w' hM' => ⟨rfl, hM'.below⟩
        · have hne : y.s ≠ x.s := fun e => by have h6 : (y.s == x.s) = false := h5; rw [e] at h6; simp at h6
          (conv => arg 5; whnf)
          refine wp_must ⟨by show -9223372036854775808 ≤ (j : Int) + 1; omega, by show (j : Int) + 1 ≤ 9223372036854775807; omega⟩ ?_
          (conv => arg 5; whnf)
          refine wp_end ⟨j + 1, ⟨hjk, fun i z hi hz => by by_cases e : i = j; (subst e; rw [hy] at hz; cases hz; exact hne); exact hdj i z (by omega) hz⟩, ⟨by repeat' first | exact trivial | refine ⟨.inl rfl, ?_⟩ | refine ⟨.inr rfl, ?_⟩, ⟨by repeat' first | exact trivial | refine ⟨.inl rfl, ?_⟩ | refine ⟨.inr rfl, ?_⟩, by repeat' first | exact trivial | refine ⟨.inl rfl, ?_⟩ | refine ⟨.inr rfl, ?_⟩, fun _ h => h⟩, rfl⟩, by show k - (j + 1) < k - j; omega⟩
      · have hjk : j = k := by have h3 := of_decide_eq_false (show decide ((j : Int) < (k : Int)) = false from h4); omega
        subst hjk
        have hnd2 := nod_step hx hnd (fun i y hi hy => hdj i y hi hy)
        have CK := fun w hM hr => rcheck_ x.s x.b 16 x.l x.a x.n x.c w hM xs xn hr
        have RD := fun w hr => rready x.s x.b x.l x.a x.n x.c w xs xn hr (by omega)
        have hck2 : checkV x.s x.b 16 x.l = true → ∀ z ∈ L.take (j + 1), checkV z.s z.b 16 z.l = true := fun h z hz => by
          rw [List.take_add_one, hx] at hz
          rcases List.mem_append.1 hz with hz | hz
          · exact hck z hz
          · simp at hz; subst hz; exact h
        have hsz : sizeL (rdys (L.take (j + 1))) = sizeL (rdys (L.take j)) + (readyV x.b x.l).length := by
          rw [List.take_add_one, hx]; unfold sizeL rdys; simp
        have hsle : sizeL (rdys (L.take j)) ≤ 400 := by
          unfold sizeL rdys
          refine Nat.le_trans (sum_le (k := 20) fun z hz => ?_) ?_
          · obtain ⟨r, hr, rfl⟩ := List.mem_map.1 hz
            obtain ⟨u, hu, rfl⟩ := List.mem_map.1 hr
            have := hx20 u (List.mem_of_mem_take hu)
            unfold readyV; rw [List.length_take]; omega
          · rw [List.length_map, List.length_map, List.length_take]; omega
        have hrl : (readyV x.b x.l).length ≤ 20 := by have := hx20 x hxm; unfold readyV; rw [List.length_take]; omega
        generalize checkV x.s x.b 16 x.l = ck at *
        generalize readyV x.b x.l = rv at *
        (conv => arg 5; whnf)
        refine wp_must ⟨by omega, by show (j : Int) < (n : Int); omega, hs.some hlt⟩ ?_
        (conv => arg 5; whnf)
        refine readS (vs := x.cs) (sz := 3) (k := j) rfl rfl (.head _) hlt (hs.some hlt) (cellsA_at hx) rfl ?_
        (conv => arg 5; whnf)
        refine meetc (f := 39) (v := .bool ck) rfl (by kernel_rfl) (fun β ρ w' hM' => CK w' (hM.later hM'.below) (hM'.at_ (.tail _ (List.mem_map.2 ⟨x, hxm, rfl⟩)))) ?_
        cases ck with
        | false =>
          (conv => arg 5; whnf)
          refine meetc (f := 30) (v := .bool true) rfl (by kernel_rfl) (fun β ρ w' hM' => live w' (hM.later hM'.below)) ?_
          (conv => arg 5; whnf)
          exact wp_back fun β ρ w' hM' => ⟨rfl, hM'.below⟩
        | true =>
          (conv => arg 5; whnf)
          refine wp_must ⟨by omega, by show (j : Int) < (n : Int); omega, hs.some hlt⟩ ?_
          (conv => arg 5; whnf)
          refine readS (vs := x.cs) (sz := 3) (k := j) rfl rfl (.head _) hlt (hs.some hlt) (cellsA_at hx) rfl ?_
          (conv => arg 5; whnf)
          refine meet1F (f := 40) (n := rv.length) (v := fun a1 c1 => .slice a1 rv.length c1) (xs := cellsL rv) rfl (by kernel_rfl) (fun β ρ w' hM' => RD w' (hM'.at_ (.tail _ (List.mem_map.2 ⟨x, hxm, rfl⟩)))) (fun p c_p h_p f_p => ?_)
          (conv => arg 5; whnf)
          refine wp_must ⟨by omega, by omega⟩ ?_
          (conv => arg 5; whnf)
          refine wp_must ⟨by show -9223372036854775808 ≤ (j : Int) + 1; omega, by show (j : Int) + 1 ≤ 9223372036854775807; omega⟩ ?_
          (conv => arg 5; whnf)
          have e : ((sizeL (rdys (L.take j)) : Nat) : Int) + (rv.length : Int) = ((sizeL (rdys (L.take (j + 1))) : Nat) : Int) := by rw [hsz]; push_cast; rfl
          refine wp_end ⟨j + 1, ⟨hlt, hnd2, hck2 rfl⟩, ⟨by repeat' first | exact trivial | refine ⟨.inl rfl, ?_⟩ | refine ⟨.inr rfl, ?_⟩ | refine ⟨.inr (congrArg (fun z => Sx.T.v (.int .i64 z)) e), ?_⟩ | refine ⟨.inr (congrArg (fun z => Sx.T.v (.int .i64 z)) e.symm), ?_⟩, ⟨by repeat' first | exact trivial | refine ⟨.inl rfl, ?_⟩ | refine ⟨.inr rfl, ?_⟩ | refine ⟨.inr (congrArg (fun z => Sx.T.v (.int .i64 z)) e), ?_⟩ | refine ⟨.inr (congrArg (fun z => Sx.T.v (.int .i64 z)) e.symm), ?_⟩, by repeat' first | exact trivial | refine ⟨.inl rfl, ?_⟩ | refine ⟨.inr rfl, ?_⟩ | refine ⟨.inr (congrArg (fun z => Sx.T.v (.int .i64 z)) e), ?_⟩ | refine ⟨.inr (congrArg (fun z => Sx.T.v (.int .i64 z)) e.symm), ?_⟩, fun _ h => .tail _ h⟩, rfl⟩, by show n - (j + 1) < n - j; omega⟩
    · have hkn : k = n := by have h3 := of_decide_eq_false (show decide ((k : Int) < (n : Int)) = false from h1); omega
      have e : L.take k = L := List.take_of_length_le (by omega)
      rw [e] at hnd hck
      rw [show rdys (L.take k) = rdys L by rw [e]]
      have hgd : GoodL L := ⟨hnd, hck⟩
      have hsle : sizeL (rdys L) ≤ 400 := by
        unfold sizeL rdys
        refine Nat.le_trans (sum_le (k := 20) fun z hz => ?_) ?_
        · obtain ⟨r, hr, rfl⟩ := List.mem_map.1 hz
          obtain ⟨u, hu, rfl⟩ := List.mem_map.1 hr
          have := hx20 u hu
          unfold readyV; rw [List.length_take]; omega
        · rw [List.length_map, List.length_map]; omega
      have hfull : (templateV L 1125899906842624).length = sizeL (rdys L) := by
        rw [hgd.tmpl]; exact tpl_full _ _ hgd.costs (by omega)
      have hadj : ∀ A x y B, templateV L 1125899906842624 = A ++ x :: y :: B → x.s ≠ y.s → betterV y x = false := by
        rw [hgd.tmpl]; exact tpl_adj (sOf L) L.length _ _ hgd.labels
      have hfol := hgd.follows 1125899906842624
      have hpd : ∀ t ∈ templateV L 1125899906842624, t.d.size ≤ maxLen := fun t ht => by
        rw [hgd.tmpl] at ht
        obtain ⟨r, hr, htr⟩ := tpl_mem _ _ t ht
        obtain ⟨u, hu, rfl⟩ := List.mem_map.1 hr
        exact (hA.2.2.2 u hu).1.2.2.2 t (List.mem_of_mem_take htr)
      have P1 := fun w hM hA => template L 1125899906842624 a n c w hM hA (by omega) (by omega) (by omega)
      have O1 := fun q cq w hM hA hs hr => follows L (templateV L 1125899906842624) a n c q (templateV L 1125899906842624).length cq w hM hA (by omega) hs rfl hr
      rw [hfol] at O1
      have hpl : (templateV L 1125899906842624).length ≤ 400 := by omega
      generalize templateV L 1125899906842624 = pv at *
      rw [← hfull]
      (conv => arg 5; whnf)
      refine meet1F (f := 35) (n := pv.length) (v := fun a1 c1 => .slice a1 pv.length c1) (xs := cellsL pv) rfl (by kernel_rfl) (fun β ρ w' hM' => P1 w' (hM.later hM'.below) (Mem.acs hA hM' fun φ hφ => hφ)) (fun q c_q h_q f_q => ?_)
      (conv => arg 5; whnf)
      refine wp_g0 (fun h2 => ?_) (fun h2 => by simp at h2)
      (conv => arg 5; whnf)
      refine meetc (f := 37) (v := .bool true) rfl (by kernel_rfl) (fun β ρ w' hM' => O1 q c_q w' (hM.later hM'.below) (Mem.acs hA hM' fun φ hφ => .tail _ (hφ)) h_q (hM'.at_ (.head _))) ?_
      (conv => arg 5; whnf)
      refine loop_rule env_ok.keeps [(10, (line [0, 1, 2, 3, 4, 5, 6, 7, 8, 9, 10], [])), (21, (line [0, 1, 2, 3, 4, 5, 6, 7, 8, 9, 10, 11, 12, 13, 14, 15, 16, 17, 18, 19, 20, 21, 22, 23], []))] (schedQ_ok _ _ (by kernel_rfl)) (fun i : Nat => i ≤ pv.length) (fun i => (⟨[], [], rowF (pt q pv.length) (cellsL pv) :: acsF a n L⟩, [.any, .any, .any, .any, .any, .any, .v (.slice q pv.length c_q), .v (.int .i64 i), .any, .any, .any, .any, .any, .any, .any, .any, .any, .any, .any, .any, .any, .any, .any, .any, .any, .any, .any, .any, .any, .any, .any, .any, .any, .any, .any, .any, .any, .any, .any, .any, .any, .any, .any, .any, .any, .any, .any, .any, .any, .any, .any, .any, .any, .any, .any, .any, .any, .any, .any, .any, .any, .any, .any, .any, .any, .any, .any, .any, .any, .any, .any, .any, .any, .any, .any, .any, .any, .any, .any, .any, .any, .any, .any, .any, .any, .any, .any, .any, .any, .any, .any, .any, .any, .any])) (fun i => pv.length - i) 0 (Nat.zero_le _) ⟨by repeat' first | exact trivial | refine ⟨.inl rfl, ?_⟩ | refine ⟨.inr rfl, ?_⟩, ⟨by repeat' first | exact trivial | refine ⟨.inl rfl, ?_⟩ | refine ⟨.inr rfl, ?_⟩, by repeat' first | exact trivial | refine ⟨.inl rfl, ?_⟩ | refine ⟨.inr rfl, ?_⟩, fun _ h => h⟩, rfl⟩ ?_
      intro i hi
      (conv => arg 5; whnf)
      refine wp_must ⟨by show -9223372036854775808 ≤ (i : Int) + 1; omega, by show (i : Int) + 1 ≤ 9223372036854775807; omega⟩ ?_
      (conv => arg 5; whnf)
      refine wp_br (fun h1 => ?_) (fun h1 => ?_)
      · have hlt : i + 1 < pv.length := by have h3 := of_decide_eq_true (show decide ((i : Int) + 1 < (pv.length : Int)) = true from h1); omega
        have hx := nx_get (l := pv) (i := i) (by omega)
        have hy := nx_get (l := pv) (i := i + 1) (by omega)
        have hxd := hpd _ (nx_mem (l := pv) (i := i) (by omega))
        have hyd := hpd _ (nx_mem (l := pv) (i := i + 1) (by omega))
        have hsp : ∃ A B, pv = A ++ nx pv i :: nx pv (i + 1) :: B := by
          obtain ⟨h5, h6⟩ := List.getElem?_eq_some_iff.1 hx
          obtain ⟨h7, h8⟩ := List.getElem?_eq_some_iff.1 hy
          refine ⟨pv.take i, pv.drop (i + 2), ?_⟩
          rw [← h6, ← h8, ← List.drop_eq_getElem_cons h7, ← List.drop_eq_getElem_cons h5, List.take_append_drop]
        have hnb : (nx pv i).s ≠ (nx pv (i + 1)).s → betterV (nx pv (i + 1)) (nx pv i) = false := fun h => by obtain ⟨A, B, h9⟩ := hsp; exact hadj A _ _ B h9 h
        have BT := fun w hM => rbetter (nx pv (i + 1)) (nx pv i) w hM hyd hxd
        generalize nx pv i = x at *
        generalize nx pv (i + 1) = y at *
        clear hsp
        have e1 : ((i : Int) + 1) = ((i + 1 : Nat) : Int) := by push_cast; rfl
        (conv => arg 5; whnf)
        refine wp_must ⟨by omega, by show (i : Int) < (pv.length : Int); omega, h_q.some hlt⟩ ?_
        (conv => arg 5; whnf)
        refine read1 (.int .i64 x.s) (l := pv) (k := i) rfl (.head _) (by omega) (h_q.some hlt) hx (f := 0) rfl rfl ?_
        (conv => arg 5; whnf)
        refine wp_must ⟨by show -9223372036854775808 ≤ (i : Int) + 1; omega, by show (i : Int) + 1 ≤ 9223372036854775807; omega⟩ ?_
        (conv => arg 5; whnf)
        refine wp_must ⟨by omega, by show (i : Int) + 1 < (pv.length : Int); omega, h_q.some hlt⟩ ?_
        (conv => arg 5; whnf)
        refine read1 (.int .i64 y.s) (l := pv) (k := i + 1) rfl (.head _) hlt (h_q.some hlt) hy (f := 0) rfl rfl ?_
        (conv => arg 5; whnf)
        refine wp_g1 (fun h5 => ?_) (fun h5 => ?_)
        · have hne : x.s ≠ y.s := fun e => by rw [e] at h5; simp at h5
          rw [hnb hne] at BT
          (conv => arg 5; whnf)
          refine wp_must ⟨by show -9223372036854775808 ≤ (i : Int) + 1; omega, by show (i : Int) + 1 ≤ 9223372036854775807; omega⟩ ?_
          (conv => arg 5; whnf)
          refine wp_must ⟨by omega, by show (i : Int) + 1 < (pv.length : Int); omega, h_q.some hlt⟩ ?_
          (conv => arg 5; whnf)
          refine readX (l := pv) (k := i + 1) (x := y) rfl (.head _) hlt (h_q.some hlt) hy rfl ?_
          (conv => arg 5; whnf)
          refine wp_must ⟨by omega, by show (i : Int) < (pv.length : Int); omega, h_q.some hlt⟩ ?_
          (conv => arg 5; whnf)
          refine readX (l := pv) (k := i) (x := x) rfl (.head _) (by omega) (h_q.some hlt) hx rfl ?_
          (conv => arg 5; whnf)
          refine meetc (f := 24) (v := .bool false) rfl (by kernel_rfl) (fun β ρ w' hM' => BT w' (hM.later hM'.below)) ?_
          (conv => arg 5; whnf)
          refine wp_must ⟨by show -9223372036854775808 ≤ (i : Int) + 1; omega, by show (i : Int) + 1 ≤ 9223372036854775807; omega⟩ ?_
          (conv => arg 5; whnf)
          refine wp_end ⟨i + 1, by show i + 1 ≤ pv.length; omega, ⟨by repeat' first | exact trivial | refine ⟨.inl rfl, ?_⟩ | refine ⟨.inr rfl, ?_⟩, ⟨by repeat' first | exact trivial | refine ⟨.inl rfl, ?_⟩ | refine ⟨.inr rfl, ?_⟩, by repeat' first | exact trivial | refine ⟨.inl rfl, ?_⟩ | refine ⟨.inr rfl, ?_⟩, fun _ h => h⟩, rfl⟩, by show pv.length - (i + 1) < pv.length - i; omega⟩
        · (conv => arg 5; whnf)
          refine wp_must ⟨by show -9223372036854775808 ≤ (i : Int) + 1; omega, by show (i : Int) + 1 ≤ 9223372036854775807; omega⟩ ?_
          (conv => arg 5; whnf)
          refine wp_end ⟨i + 1, by show i + 1 ≤ pv.length; omega, ⟨by repeat' first | exact trivial | refine ⟨.inl rfl, ?_⟩ | refine ⟨.inr rfl, ?_⟩, ⟨by repeat' first | exact trivial | refine ⟨.inl rfl, ?_⟩ | refine ⟨.inr rfl, ?_⟩, by repeat' first | exact trivial | refine ⟨.inl rfl, ?_⟩ | refine ⟨.inr rfl, ?_⟩, fun _ h => h⟩, rfl⟩, by show pv.length - (i + 1) < pv.length - i; omega⟩
      · (conv => arg 5; whnf)
        refine meetc (f := 30) (v := .bool true) rfl (by kernel_rfl) (fun β ρ w' hM' => live w' (hM.later hM'.below)) ?_
        (conv => arg 5; whnf)
        exact wp_back fun β ρ w' hM' => ⟨rfl, hM'.below⟩
end Go.Proofs.YtohikebnlamnnaaDoor.greedyMore
namespace Go.Proofs.YtohikebnlamnnaaDoor.greedyMore
open Go.ChangeShapes Go.WideShapes Go.ChangeAt Go.RowKit
open Go.ChangeMaps (open_string shut_string)
set_option linter.unusedVariables false

theorem own : ownKnob Tryd.prog.godebug = none := by kernel_rfl
theorem laidOut : laidOutB Tryd.prog = true := by kernel_rfl

/-- A world in which the list of bounds lies as it was laid. -/
noncomputable def laidWorld (os : Os) : World :=
  let w0 := World.holding Tryd.prog os ⟨#[], #[], []⟩
  { w0 with heap := w0.heap.modify 0 fun
      | .cells _ t frozen => .cells #[.int .i64 255, .int .i64 4294967295, .int .i64 1099511627776, .int .i64 1099511627776, .int .i64 1073741824] t frozen
      | o => o }
theorem laid_met (os : Os) (args : Array Value) : laidMet Tryd.prog Rows.greedyMoreRow.laid ((laidWorld os).forCall (fun _ _ => 0) ⟨#[], args, []⟩).memory :=
  laidMet_of_run (ps := [.cell 0 0, .cell 0 1, .cell 0 2, .cell 0 3, .cell 0 4]) 8 (by kernel_rfl) (by kernel_rfl) (by kernel_rfl)

set_option maxRecDepth 100000 in
theorem lifted (os : Os) (started : os.Started) (H : Type) (enc : TypeId × Value → H) :
    ReturnsInHanded {} Tryd.checked os 9 .any (fun w args => (Rows.greedyMoreSpec.pre enc Tryd.prog Tryd.f9 Rows.greedyMoreRow.domain false w args ∧ laidMet Tryd.prog Rows.greedyMoreRow.laid w) ∧ sizedMet enc Tryd.prog Tryd.f9 (OpenSpec.ofChange Rows.greedyMoreSpec) false w args) (Rows.greedyMoreSpec.post enc Tryd.prog Tryd.f9 false true false false) := by
  refine returnsInHanded_of_change_and (C := Tryd.checked) (X := fun w _ => laidMet Tryd.prog Rows.greedyMoreRow.laid w) (fun _ _ _ hh h => h.of_heap hh) own started (by kernel_rfl) Tryd.func9
    (ChangeSpec.witness_at (enc := enc) (C := Tryd.checked) (os := os) (X := fun w _ => laidMet Tryd.prog Rows.greedyMoreRow.laid w) false (laidWorld os) #[.slice none 0 0] 8 rfl (by kernel_rfl) (by kernel_rfl) (by kernel_rfl) (by kernel_rfl) (by kernel_rfl) (laid_met os _)) ?_
  intro W base args ds gs before hval0 hW hcnd _ hL _
  have hval : ∀ (j : Nat) t v, Tryd.f9.params[j]? = some t → args[j]? = some v → Value.okWide Tryd.prog W .any base t v := hval0
  have hW' := hW
  obtain ⟨p, q, hA0, hV, rfl, hfz, hnd⟩ := hW
  have hA : DataW.TrodAll enc Tryd.prog W 0 (fun _ => true) true Tryd.f9.params.toList args.toList ds p := hA0
  rw [Tryd.params9] at hA hval
  obtain ⟨v0, vs0, d0, ds0, p0, q0, hargs, rfl, rfl, h0, r0⟩ := trodAll_cons hA
  obtain ⟨rfl, rfl, rfl⟩ := trodAll_nil r0
  obtain rfl : args = #[v0] := by cases args; simp_all
  obtain ⟨rfl, rfl⟩ := trodVars_none hV
  have k0 := h0
  have lt0 : ∀ x ∈ p0, x.block < W.heap.size := by obtain ⟨m, hm⟩ := k0; exact DataW.trod_lt m _ _ _ hm
  obtain ⟨a0, n0, c0, l0, rfl, f0⟩ := greedy.open_accs (hval 0 24 v0 rfl rfl) h0
  clear hA0 hval0
  have hM : txn.Most W := txn.most_of_laid hL
  refine (walk a0 n0 c0 l0 W hM f0).mono fun e W' ⟨he, bel⟩ => ?_
  subst he
  exact ⟨_, rfl, _, _, _, [], _, [], hW', trodAll_mk1 (shut_bool Tryd.underlying4 _), (trodAll_cons_mk (Below.trod laidOut (by kernel_rfl) (of_decide_eq_true (by kernel_rfl)) k0 bel lt0) trodAll_mk0), rfl, bel.frame _, fun h => by cases h⟩

theorem over : Rows.GreedyMoreSaid :=
  OpenClaim.holds_of_wide 9 Tryd.f9 rfl rfl rfl rfl rfl rfl rfl ⟨rfl, rfl, rfl, rfl, rfl⟩ rfl rfl rfl rfl rfl (by kernel_rfl) Tryd.func9 (by kernel_rfl)
    (of_decide_eq_true (by kernel_rfl)) (by unfold Func.isWrapper; first | (rw [if_pos (by decide +kernel)]; kernel_rfl) | (rw [if_neg (by decide +kernel)]; exact ⟨rfl, rfl⟩))
    (fun os started H enc _ => lifted os started H enc)

/-- THE STATEMENT. -/
theorem proved : Rows.GreedyMoreCardSaid :=
  Claim7.holds_tied_plain_at .later [] [.data] true (true, "720f6701ae90a052211e6470d7d286ec70df9faa60d1833d35a594b593cda112") false
    over (fun _ h => by cases h) (by kernel_rfl) (fun _ h => by cases h) greedyMore_row_tie rfl ⟨rfl, rfl⟩ (by kernel_rfl) rfl
    (fun f fn hf hfn => by
      obtain rfl : f = 9 := (Option.some.inj ((show Tryd.prog.funcNamed "hopper/hopperlaw12.GreedyMore" = some 9 by kernel_rfl).symm.trans hf)).symm
      obtain rfl : fn = Tryd.f9 := (Option.some.inj (Tryd.func9.symm.trans hfn)).symm
      exact ⟨by kernel_rfl, fun j t ht => by
        rw [Tryd.params9] at ht
        match j, ht with
        | 0, ht =>
          obtain rfl : t = 24 := by simpa using ht.symm
          exact (show Tryd.prog.wantsStandIn 24 = false by kernel_rfl)
        | j + 1, ht => simp at ht⟩)
    (by kernel_rfl)
#print axioms proved
end Go.Proofs.YtohikebnlamnnaaDoor.greedyMore
