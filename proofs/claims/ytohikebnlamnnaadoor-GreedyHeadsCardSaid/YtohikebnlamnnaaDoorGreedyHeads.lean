/- hopper/hopperlaw12.GreedyHeads answers true at every input, and every argument reads behind the call as it read before; hopper/txn.most holds what the program's text lays there: the card ties it. No other condition. -/
import Derived.Test.YtohikebnlamnnaaDoorRows
import Derived.Test.YtohikebnlamnnaaDoorTxn
import Derived.OpenShut
import Derived.ChangeOld
import Derived.LaidLaws
import Derived.Test.YtohikebnlamnnaaDoorGreedyQ
import Derived.Test.YtohikebnlamnnaaDoorCards
import Derived.Test.YtohikebnlamnnaaDoorTie
import Derived.Test.YtohikebnlamnnaaDoorGreedyAll
import Derived.WalkKit
import Derived.ProofKit
import Derived.ShutString
import Derived.Below
import Derived.Handed
import Derived.SevenTiedAt
namespace Go.Proofs.YtohikebnlamnnaaDoor.txn
open Go.RowKit Go.ChangeShapes Go.WideShapes
set_option linter.unusedVariables false

set_option maxRecDepth 100000 in
/-- From what is laid to the cells that Check reads. -/
theorem most_of_laid {W : World} (h : laidMet Tryd.prog [("hopper/txn.most", Rows.laid_hopper_txn_most)] W) : Most W := by
  obtain ⟨ps, ⟨g, t, cs, fuel, p, q, hg, ht, hvar, hd, _, _⟩, _⟩ := h
  obtain rfl := Option.some.inj ((show Tryd.prog.globalNamed "hopper/txn.most" = some 0 by kernel_rfl).symm.trans hg)
  obtain rfl := Option.some.inj ((show (Tryd.prog.globals[0]?).map (·.type) = some 135 by kernel_rfl).symm.trans ht)
  obtain ⟨xs, m, _, hx, hlen, hn, hi⟩ := DataW.trod_array Tryd.underlying135 hd
  have h5 : cs.toList.length = 5 := hlen.trans (by kernel_rfl)
  obtain ⟨l⟩ := cs
  match l, h5 with
  | [c0, c1, c2, c3, c4], _ =>
    match xs, hn with
    | [y0, y1, y2, y3, y4], _ =>
      have k3 : Tryd.prog.cellsOf 3 = 1 := by kernel_rfl
      have g0 := hi 0 (by omega)
      have g1 := hi 1 (by omega)
      have g2 := hi 2 (by omega)
      have g3 := hi 3 (by omega)
      have g4 := hi 4 (by omega)
      simp [k3] at g0 g1 g2 g3 g4
      obtain ⟨a0, e0, f0, _⟩ := DataW.trod_int Tryd.underlying3 g0
      obtain ⟨a1, e1, f1, _⟩ := DataW.trod_int Tryd.underlying3 g1
      obtain ⟨a2, e2, f2, _⟩ := DataW.trod_int Tryd.underlying3 g2
      obtain ⟨a3, e3, f3, _⟩ := DataW.trod_int Tryd.underlying3 g3
      obtain ⟨a4, e4, f4, _⟩ := DataW.trod_int Tryd.underlying3 g4
      simp at e0 e1 e2 e3 e4
      subst e0 e1 e2 e3 e4 f0 f1 f2 f3 f4
      simp [Rows.laid_hopper_txn_most] at hx
      obtain ⟨⟨r0, r1, r2, r3, r4⟩, _⟩ := hx
      subst r0 r1 r2 r3 r4
      have z0 := World.var?_cell hg hvar 0
      have z1 := World.var?_cell hg hvar 1
      have z2 := World.var?_cell hg hvar 2
      have z3 := World.var?_cell hg hvar 3
      have z4 := World.var?_cell hg hvar 4
      have hz : 0 < W.heap.size := by
        rcases Nat.eq_zero_or_pos W.heap.size with h0 | h0
        · exfalso
          simp [World.cell?, Array.getElem?_eq_none (show W.heap.size ≤ 0 by omega)] at z0
        · exact h0
      exact ⟨by simpa using z0, by simpa using z1, by simpa using z2, by simpa using z3, by simpa using z4, hz⟩
end Go.Proofs.YtohikebnlamnnaaDoor.txn
namespace Go.Proofs.YtohikebnlamnnaaDoor.greedyHeads
open Go.RowKit Sx txn queue greedy
set_option linter.unusedVariables false
set_option linter.unusedSimpArgs false
def hd1 (pv : List Tx) (y : Tx) : Bool := match pv with | [] => false | t :: _ => sameT y t
set_option maxHeartbeats 4000000 in
set_option maxRecDepth 100000 in
theorem walk (a : Option Addr) (n c : Nat) (L : List Ac) (gas : Int) (w : World) (hM : Most w) (hI : AccsIn w a n c L) (hgas : Fits gas) :
    Calls Tryd.prog 11 (List.toArray [.slice a n c, .int .i64 gas]) w fun e w' => e = .returned (.bool true) ∧ Below w.heap.size w w' := by
  have hG : -9223372036854775808 ≤ gas ∧ gas ≤ 9223372036854775807 := by unfold Fits at hgas; omega
  refine calls_of_exec env_ok.keeps Tryd.func11 rfl [(15, (line [0, 1, 2, 3, 4, 5, 6, 7, 8, 9, 10, 11, 12, 13, 14, 15], [])), (17, (line [0, 1, 2, 3, 4, 5, 6, 7, 8, 9, 10, 11, 12, 13, 14, 15, 16], []))] (schedQ_ok _ _ (by kernel_rfl)) (acsF a n L) hI.facts ?_
  have FW := fun w' (hM' : AccsIn w' a n c L) => fewW L 20 a n c w' hM'
  generalize hfb : (fewA L && decide ((n : Int) ≤ 20)) = fb at *
  (conv => arg 5; whnf)
  refine meetc (f := 12) (v := .bool fb) rfl (by kernel_rfl) (fun β ρ w' hM' => FW w' (hI.mem hM' fun φ hφ => hφ)) ?_
  cases fb with
  | false =>
    (conv => arg 5; whnf)
    refine meetc (f := 30) (v := .bool true) rfl (by kernel_rfl) (fun β ρ w' hM' => live w' (hM.later hM'.below)) ?_
    (conv => arg 5; whnf)
    exact wp_back fun β ρ w' hM' => ⟨rfl, hM'.below⟩
  | true =>
    simp only [Bool.and_eq_true, decide_eq_true_eq] at hfb
    obtain ⟨hA, hx20⟩ := hI.few hfb.1
    have hs := hI.1
    have hn := hI.2.1
    have hn20 : n ≤ 20 := by omega
    have hTl : (templateV L gas).length ≤ 400 := tpl_le hx20 (by omega) gas
    (conv => arg 5; whnf)
    refine wp_br (fun h2 => ?_) (fun h2 => ?_)
    · (conv => arg 5; whnf)
      refine meetc (f := 30) (v := .bool true) rfl (by kernel_rfl) (fun β ρ w' hM' => live w' (hM.later hM'.below)) ?_
      (conv => arg 5; whnf)
      exact wp_back fun β ρ w' hM' => ⟨rfl, hM'.below⟩
    · have hg0 : 0 ≤ gas := by have h3 := of_decide_eq_false (show decide (gas < 0) = false from h2); omega
      (conv => arg 5; whnf)
      refine loop_rule env_ok.keeps [(15, (line [0, 1, 2, 3, 4, 5, 6, 7, 8, 9, 10, 11, 12, 13, 14, 15], [])), (17, (line [0, 1, 2, 3, 4, 5, 6, 7, 8, 9, 10, 11, 12, 13, 14, 15, 16], []))] (schedQ_ok _ _ (by kernel_rfl)) (fun k : Nat => k ≤ n) (fun k => (⟨[], [], acsF a n L⟩, [.v (.slice a n c), .v (.int .i64 gas), .any, .any, .any, .v (.int .i64 k), .any, .any, .any, .any, .any, .any, .any, .any, .any, .any, .any, .any, .any, .any, .any, .any, .any, .any, .any, .any, .any, .any, .any, .any, .any, .any, .any, .any, .any, .any, .any, .any, .any, .any, .any, .any, .any, .any, .any, .any, .any, .any, .any, .any, .any, .any, .any, .any, .any, .any, .any, .any, .any, .any, .any, .any, .any, .any, .any, .any, .any, .any, .any, .any, .any, .any, .any, .any, .any, .any, .any, .any, .any, .any, .any, .any, .any, .any, .any, .any, .any, .any, .any, .any, .any, .any, .any, .any, .any, .any, .any])) (fun k => n - k) 0 (Nat.zero_le _) ⟨by repeat' first | exact trivial | refine ⟨.inl rfl, ?_⟩ | refine ⟨.inr rfl, ?_⟩, ⟨by repeat' first | exact trivial | refine ⟨.inl rfl, ?_⟩ | refine ⟨.inr rfl, ?_⟩, by repeat' first | exact trivial | refine ⟨.inl rfl, ?_⟩ | refine ⟨.inr rfl, ?_⟩, fun _ h => h⟩, rfl⟩ ?_
      intro k hk
      (conv => arg 5; whnf)
      refine wp_br (fun h1 => ?_) (fun h1 => ?_)
      · have hlt : k < n := by have h3 := of_decide_eq_true (show decide ((k : Int) < (n : Int)) = true from h1); omega
        obtain ⟨x, hx⟩ : ∃ x, L[k]? = some x := ⟨_, List.getElem?_eq_getElem (by omega)⟩
        have hxm : x ∈ L := List.mem_of_getElem? hx
        obtain ⟨⟨xs, xn, xl, xd⟩, _⟩ := hA.2.2.2 x hxm
        have CK := fun w hM hr => rcheck_ x.s x.b 16 x.l x.a x.n x.c w hM xs xn hr
        generalize checkV x.s x.b 16 x.l = ck at *
        (conv => arg 5; whnf)
        refine wp_must ⟨by omega, by show (k : Int) < (n : Int); omega, hs.some hlt⟩ ?_
        (conv => arg 5; whnf)
        refine readS (vs := x.cs) (sz := 3) (k := k) rfl rfl (.head _) hlt (hs.some hlt) (cellsA_at hx) rfl ?_
        (conv => arg 5; whnf)
        refine meetc (f := 39) (v := .bool ck) rfl (by kernel_rfl) (fun β ρ w' hM' => CK w' (hM.later hM'.below) (hM'.at_ (.tail _ (List.mem_map.2 ⟨x, hxm, rfl⟩)))) ?_
        cases ck with
        | false =>
          (conv => arg 5; whnf)
          refine meetc (f := 30) (v := .bool true) rfl (by kernel_rfl) (fun β ρ w' hM' => live w' (hM.later hM'.below)) ?_
          (conv => arg 5; whnf)
          exact wp_back fun β ρ w' hM' => ⟨rfl, hM'.below⟩
        | true =>
          (conv => arg 5; whnf)
          refine wp_must ⟨by show -9223372036854775808 ≤ (k : Int) + 1; omega, by show (k : Int) + 1 ≤ 9223372036854775807; omega⟩ ?_
          (conv => arg 5; whnf)
          refine wp_end ⟨k + 1, hlt, ⟨by repeat' first | exact trivial | refine ⟨.inl rfl, ?_⟩ | refine ⟨.inr rfl, ?_⟩, ⟨by repeat' first | exact trivial | refine ⟨.inl rfl, ?_⟩ | refine ⟨.inr rfl, ?_⟩, by repeat' first | exact trivial | refine ⟨.inl rfl, ?_⟩ | refine ⟨.inr rfl, ?_⟩, fun _ h => h⟩, rfl⟩, by show n - (k + 1) < n - k; omega⟩
      · clear h1 hk h2
        obtain ⟨hh1, hh2⟩ := tmpl_heads L gas
        have hhl := headsV_le L
        have hhd : ∀ y ∈ headsV L, y.d.size ≤ maxLen := fun y hy => by
          obtain ⟨i, r, hi⟩ := hdsP_mem.1 hy
          have hk := getD_lt hi
          rw [List.getD_eq_getElem?_getD, List.getElem?_eq_getElem hk] at hi
          have hm : (y :: r) ∈ ((firstsV L).map lnOf).map (·.2) := by rw [← hi]; exact List.getElem_mem hk
          rw [List.map_map] at hm
          obtain ⟨x, hx, hxr⟩ := List.mem_map.1 hm
          have hxr : lineV x.b x.l = y :: r := hxr
          exact (hA.2.2.2 x (firstsV_mem hx)).1.2.2.2 y (lineV_mem y (by rw [hxr]; simp))
        have P1 := fun w hM hA => template L gas a n c w hM hA (by omega) hG (by omega)
        have H1 := fun w hM hA => heads L a n c w hM hA (by omega)
        generalize templateV L gas = pv at *
        generalize headsV L = hv at *
        (conv => arg 5; whnf)
        refine meet1F (f := 33) (n := hv.length) (v := fun a1 c1 => .slice a1 hv.length c1) (xs := cellsL hv) rfl (by kernel_rfl) (fun β ρ w' hM' => H1 w' (hM.later hM'.below) (Mem.acs hA hM' fun φ hφ => hφ)) (fun p c_p h_p f_p => ?_)
        (conv => arg 5; whnf)
        refine meet1F (f := 35) (n := pv.length) (v := fun a1 c1 => .slice a1 pv.length c1) (xs := cellsL pv) rfl (by kernel_rfl) (fun β ρ w' hM' => P1 w' (hM.later hM'.below) (Mem.acs hA hM' fun φ hφ => .tail _ (hφ))) (fun q c_q h_q f_q => ?_)
        have hpl := h_p.le
        obtain ⟨fd, hf0, hfn, hfs⟩ : ∃ fd : Nat → Bool, fd 0 = false ∧ fd hv.length = decide (0 < pv.length) ∧ ∀ k y, hv[k]? = some y → fd (k + 1) = (fd k || hd1 pv y) := by
          refine ⟨fun k => (hv.take k).any (fun y => hd1 pv y), rfl, ?_, fun k y hy => ?_⟩
          · show (hv.take hv.length).any _ = _
            rw [List.take_length, Bool.eq_iff_iff, List.any_eq_true, decide_eq_true_eq]
            cases pv with
            | nil => simp [hd1]
            | cons t T => exact ⟨fun _ => by simp, fun _ => ⟨t, hh2 t T rfl, (sameT_iff t t).2 rfl⟩⟩
          · show (hv.take (k + 1)).any _ = _
            rw [List.take_add_one, hy, List.any_append]; simp
        (conv => arg 5; whnf)
        refine loop_rule env_ok.keeps [(15, (line [0, 1, 2, 3, 4, 5, 6, 7, 8, 9, 10, 11, 12, 13, 14, 15], [])), (17, (line [0, 1, 2, 3, 4, 5, 6, 7, 8, 9, 10, 11, 12, 13, 14, 15, 16], []))] (schedQ_ok _ _ (by kernel_rfl)) (fun k : Nat => k ≤ hv.length) (fun k => (⟨[], [], rowF (pt q pv.length) (cellsL pv) :: rowF (pt p hv.length) (cellsL hv) :: acsF a n L⟩, [.v (.slice a n c), .v (.int .i64 gas), .any, .any, .any, .any, .v (.slice p hv.length c_p), .v (.slice q pv.length c_q), .v (.bool (fd k)), .v (.int .i64 k), .any, .any, .any, .any, .any, .any, .any, .any, .any, .any, .any, .any, .any, .any, .any, .any, .any, .any, .any, .any, .any, .any, .any, .any, .any, .any, .any, .any, .any, .any, .any, .any, .any, .any, .any, .any, .any, .any, .any, .any, .any, .any, .any, .any, .any, .any, .any, .any, .any, .any, .any, .any, .any, .any, .any, .any, .any, .any, .any, .any, .any, .any, .any, .any, .any, .any, .any, .any, .any, .any, .any, .any, .any, .any, .any, .any, .any, .any, .any, .any, .any, .any, .any, .any, .any, .any, .any])) (fun k => hv.length - k) 0 (Nat.zero_le _) ⟨by repeat' first | exact trivial | refine ⟨.inl rfl, ?_⟩ | refine ⟨.inr rfl, ?_⟩ | refine ⟨.inr (congrArg (fun z => Sx.T.v (.bool z)) hf0), ?_⟩ | refine ⟨.inr (congrArg (fun z => Sx.T.v (.bool z)) hf0.symm), ?_⟩, ⟨by repeat' first | exact trivial | refine ⟨.inl rfl, ?_⟩ | refine ⟨.inr rfl, ?_⟩ | refine ⟨.inr (congrArg (fun z => Sx.T.v (.bool z)) hf0), ?_⟩ | refine ⟨.inr (congrArg (fun z => Sx.T.v (.bool z)) hf0.symm), ?_⟩, by repeat' first | exact trivial | refine ⟨.inl rfl, ?_⟩ | refine ⟨.inr rfl, ?_⟩ | refine ⟨.inr (congrArg (fun z => Sx.T.v (.bool z)) hf0), ?_⟩ | refine ⟨.inr (congrArg (fun z => Sx.T.v (.bool z)) hf0.symm), ?_⟩, fun _ h => h⟩, rfl⟩ ?_
        intro k hk
        (conv => arg 5; whnf)
        refine wp_br (fun h1 => ?_) (fun h1 => ?_)
        · have hlt : k < hv.length := by have h3 := of_decide_eq_true (show decide ((k : Int) < (hv.length : Int)) = true from h1); omega
          have hx := nx_get (l := hv) (i := k) (by omega)
          have hxm := nx_mem (l := hv) (i := k) (by omega)
          have hfk := hfs k _ hx
          have hxd := hhd _ hxm
          have hho := hh1 _ hxm
          generalize nx hv k = y at *
          (conv => arg 5; whnf)
          refine wp_must ⟨by omega, by show (k : Int) < (hv.length : Int); omega, h_p.some hlt⟩ ?_
          (conv => arg 5; whnf)
          refine read1 (.int .i64 y.g) (l := hv) (k := k) rfl (.tail _ (.head _)) hlt (h_p.some hlt) hx (f := 4) rfl rfl ?_
          cases pv with
          | nil =>
            have hfit : ¬ y.g ≤ gas := fun h => by obtain ⟨t, T, h5, _⟩ := hho h; cases h5
            (conv => arg 5; whnf)
            refine wp_g1 (fun h5 => absurd (of_decide_eq_true (show decide (y.g ≤ gas) = true from h5)) hfit) (fun h5 => ?_)
            cases hfd : fd k with
            | false =>
              have hfe : false = fd (k + 1) := by rw [hfk, hfd]; rfl
              (conv => arg 5; whnf)
              refine wp_must ⟨by show -9223372036854775808 ≤ (k : Int) + 1; omega, by show (k : Int) + 1 ≤ 9223372036854775807; omega⟩ ?_
              (conv => arg 5; whnf)
              refine wp_end ⟨k + 1, hlt, ⟨by repeat' first | exact trivial | refine ⟨.inl rfl, ?_⟩ | refine ⟨.inr rfl, ?_⟩ | refine ⟨.inr (congrArg (fun z => Sx.T.v (.bool z)) hfe), ?_⟩ | refine ⟨.inr (congrArg (fun z => Sx.T.v (.bool z)) hfe.symm), ?_⟩, ⟨by repeat' first | exact trivial | refine ⟨.inl rfl, ?_⟩ | refine ⟨.inr rfl, ?_⟩ | refine ⟨.inr (congrArg (fun z => Sx.T.v (.bool z)) hfe), ?_⟩ | refine ⟨.inr (congrArg (fun z => Sx.T.v (.bool z)) hfe.symm), ?_⟩, by repeat' first | exact trivial | refine ⟨.inl rfl, ?_⟩ | refine ⟨.inr rfl, ?_⟩ | refine ⟨.inr (congrArg (fun z => Sx.T.v (.bool z)) hfe), ?_⟩ | refine ⟨.inr (congrArg (fun z => Sx.T.v (.bool z)) hfe.symm), ?_⟩, fun _ h => h⟩, rfl⟩, by show hv.length - (k + 1) < hv.length - k; omega⟩
            | true =>
              have hfe : true = fd (k + 1) := by rw [hfk, hfd]; rfl
              (conv => arg 5; whnf)
              refine wp_must ⟨by show -9223372036854775808 ≤ (k : Int) + 1; omega, by show (k : Int) + 1 ≤ 9223372036854775807; omega⟩ ?_
              (conv => arg 5; whnf)
              refine wp_end ⟨k + 1, hlt, ⟨by repeat' first | exact trivial | refine ⟨.inl rfl, ?_⟩ | refine ⟨.inr rfl, ?_⟩ | refine ⟨.inr (congrArg (fun z => Sx.T.v (.bool z)) hfe), ?_⟩ | refine ⟨.inr (congrArg (fun z => Sx.T.v (.bool z)) hfe.symm), ?_⟩, ⟨by repeat' first | exact trivial | refine ⟨.inl rfl, ?_⟩ | refine ⟨.inr rfl, ?_⟩ | refine ⟨.inr (congrArg (fun z => Sx.T.v (.bool z)) hfe), ?_⟩ | refine ⟨.inr (congrArg (fun z => Sx.T.v (.bool z)) hfe.symm), ?_⟩, by repeat' first | exact trivial | refine ⟨.inl rfl, ?_⟩ | refine ⟨.inr rfl, ?_⟩ | refine ⟨.inr (congrArg (fun z => Sx.T.v (.bool z)) hfe), ?_⟩ | refine ⟨.inr (congrArg (fun z => Sx.T.v (.bool z)) hfe.symm), ?_⟩, fun _ h => h⟩, rfl⟩, by show hv.length - (k + 1) < hv.length - k; omega⟩
          | cons t T =>
            have hql : 0 < (t :: T).length := by simp
            have htd : t.d.size ≤ maxLen := hhd t (hh2 t T rfl)
            have BT := fun w hM => rbetter y t w hM hxd htd
            have hfk : fd (k + 1) = (fd k || sameT y t) := hfk
            (conv => arg 5; whnf)
            refine wp_g1 (fun h5 => ?_) (fun h5 => ?_)
            · have hbt : betterV y t = false := by obtain ⟨t', T', h7, h8⟩ := hho (of_decide_eq_true (show decide (y.g ≤ gas) = true from h5)); cases h7; exact h8
              rw [hbt] at BT
              (conv => arg 5; whnf)
              refine wp_must ⟨by omega, by show (k : Int) < (hv.length : Int); omega, h_p.some hlt⟩ ?_
              (conv => arg 5; whnf)
              refine readX (l := hv) (k := k) (x := y) rfl (.tail _ (.head _)) hlt (h_p.some hlt) hx rfl ?_
              (conv => arg 5; whnf)
              refine wp_must ⟨by omega, by show (0 : Int) < ((t :: T).length : Int); omega, h_q.some hql⟩ ?_
              (conv => arg 5; whnf)
              refine readX (l := t :: T) (k := 0) (x := t) rfl (.head _) hql (h_q.some hql) rfl rfl ?_
              (conv => arg 5; whnf)
              refine meetc (f := 24) (v := .bool false) rfl (by kernel_rfl) (fun β ρ w' hM' => BT w' (hM.later hM'.below)) ?_
              cases hfd : fd k with
              | true =>
                have hfe : true = fd (k + 1) := by rw [hfk, hfd]; rfl
                (conv => arg 5; whnf)
                refine wp_must ⟨by show -9223372036854775808 ≤ (k : Int) + 1; omega, by show (k : Int) + 1 ≤ 9223372036854775807; omega⟩ ?_
                (conv => arg 5; whnf)
                refine wp_end ⟨k + 1, hlt, ⟨by repeat' first | exact trivial | refine ⟨.inl rfl, ?_⟩ | refine ⟨.inr rfl, ?_⟩ | refine ⟨.inr (congrArg (fun z => Sx.T.v (.bool z)) hfe), ?_⟩ | refine ⟨.inr (congrArg (fun z => Sx.T.v (.bool z)) hfe.symm), ?_⟩, ⟨by repeat' first | exact trivial | refine ⟨.inl rfl, ?_⟩ | refine ⟨.inr rfl, ?_⟩ | refine ⟨.inr (congrArg (fun z => Sx.T.v (.bool z)) hfe), ?_⟩ | refine ⟨.inr (congrArg (fun z => Sx.T.v (.bool z)) hfe.symm), ?_⟩, by repeat' first | exact trivial | refine ⟨.inl rfl, ?_⟩ | refine ⟨.inr rfl, ?_⟩ | refine ⟨.inr (congrArg (fun z => Sx.T.v (.bool z)) hfe), ?_⟩ | refine ⟨.inr (congrArg (fun z => Sx.T.v (.bool z)) hfe.symm), ?_⟩, fun _ h => h⟩, rfl⟩, by show hv.length - (k + 1) < hv.length - k; omega⟩
              | false =>
                have hfe : sameT y t = fd (k + 1) := by rw [hfk, hfd, Bool.false_or]
                (conv => arg 5; whnf)
                refine wp_g1 (fun h6 => ?_) (fun h6 => by have h7 := of_decide_eq_false (show decide ((0 : Int) < ((t :: T).length : Int)) = false from h6); omega)
                (conv => arg 5; whnf)
                refine wp_must ⟨by omega, by show (k : Int) < (hv.length : Int); omega, h_p.some hlt⟩ ?_
                (conv => arg 5; whnf)
                refine readX (l := hv) (k := k) (x := y) rfl (.tail _ (.head _)) hlt (h_p.some hlt) hx rfl ?_
                (conv => arg 5; whnf)
                refine wp_must ⟨by omega, by show (0 : Int) < ((t :: T).length : Int); omega, h_q.some hql⟩ ?_
                (conv => arg 5; whnf)
                refine readX (l := t :: T) (k := 0) (x := t) rfl (.head _) hql (h_q.some hql) rfl rfl ?_
                (conv => arg 5; whnf)
                refine wp_prim (.bool (sameT y t)) (fun w => eq_any _ _ y t w) ?_
                (conv => arg 5; whnf)
                refine wp_must ⟨by show -9223372036854775808 ≤ (k : Int) + 1; omega, by show (k : Int) + 1 ≤ 9223372036854775807; omega⟩ ?_
                (conv => arg 5; whnf)
                refine wp_end ⟨k + 1, hlt, ⟨by repeat' first | exact trivial | refine ⟨.inl rfl, ?_⟩ | refine ⟨.inr rfl, ?_⟩ | refine ⟨.inr (congrArg (fun z => Sx.T.v (.bool z)) hfe), ?_⟩ | refine ⟨.inr (congrArg (fun z => Sx.T.v (.bool z)) hfe.symm), ?_⟩, ⟨by repeat' first | exact trivial | refine ⟨.inl rfl, ?_⟩ | refine ⟨.inr rfl, ?_⟩ | refine ⟨.inr (congrArg (fun z => Sx.T.v (.bool z)) hfe), ?_⟩ | refine ⟨.inr (congrArg (fun z => Sx.T.v (.bool z)) hfe.symm), ?_⟩, by repeat' first | exact trivial | refine ⟨.inl rfl, ?_⟩ | refine ⟨.inr rfl, ?_⟩ | refine ⟨.inr (congrArg (fun z => Sx.T.v (.bool z)) hfe), ?_⟩ | refine ⟨.inr (congrArg (fun z => Sx.T.v (.bool z)) hfe.symm), ?_⟩, fun _ h => h⟩, rfl⟩, by show hv.length - (k + 1) < hv.length - k; omega⟩
            · skip
              cases hfd : fd k with
              | true =>
                have hfe : true = fd (k + 1) := by rw [hfk, hfd]; rfl
                (conv => arg 5; whnf)
                refine wp_must ⟨by show -9223372036854775808 ≤ (k : Int) + 1; omega, by show (k : Int) + 1 ≤ 9223372036854775807; omega⟩ ?_
                (conv => arg 5; whnf)
                refine wp_end ⟨k + 1, hlt, ⟨by repeat' first | exact trivial | refine ⟨.inl rfl, ?_⟩ | refine ⟨.inr rfl, ?_⟩ | refine ⟨.inr (congrArg (fun z => Sx.T.v (.bool z)) hfe), ?_⟩ | refine ⟨.inr (congrArg (fun z => Sx.T.v (.bool z)) hfe.symm), ?_⟩, ⟨by repeat' first | exact trivial | refine ⟨.inl rfl, ?_⟩ | refine ⟨.inr rfl, ?_⟩ | refine ⟨.inr (congrArg (fun z => Sx.T.v (.bool z)) hfe), ?_⟩ | refine ⟨.inr (congrArg (fun z => Sx.T.v (.bool z)) hfe.symm), ?_⟩, by repeat' first | exact trivial | refine ⟨.inl rfl, ?_⟩ | refine ⟨.inr rfl, ?_⟩ | refine ⟨.inr (congrArg (fun z => Sx.T.v (.bool z)) hfe), ?_⟩ | refine ⟨.inr (congrArg (fun z => Sx.T.v (.bool z)) hfe.symm), ?_⟩, fun _ h => h⟩, rfl⟩, by show hv.length - (k + 1) < hv.length - k; omega⟩
              | false =>
                have hfe : sameT y t = fd (k + 1) := by rw [hfk, hfd, Bool.false_or]
                (conv => arg 5; whnf)
                refine wp_g1 (fun h6 => ?_) (fun h6 => by have h7 := of_decide_eq_false (show decide ((0 : Int) < ((t :: T).length : Int)) = false from h6); omega)
                (conv => arg 5; whnf)
                refine wp_must ⟨by omega, by show (k : Int) < (hv.length : Int); omega, h_p.some hlt⟩ ?_
                (conv => arg 5; whnf)
                refine readX (l := hv) (k := k) (x := y) rfl (.tail _ (.head _)) hlt (h_p.some hlt) hx rfl ?_
                (conv => arg 5; whnf)
                refine wp_must ⟨by omega, by show (0 : Int) < ((t :: T).length : Int); omega, h_q.some hql⟩ ?_
                (conv => arg 5; whnf)
                refine readX (l := t :: T) (k := 0) (x := t) rfl (.head _) hql (h_q.some hql) rfl rfl ?_
                (conv => arg 5; whnf)
                refine wp_prim (.bool (sameT y t)) (fun w => eq_any _ _ y t w) ?_
                (conv => arg 5; whnf)
                refine wp_must ⟨by show -9223372036854775808 ≤ (k : Int) + 1; omega, by show (k : Int) + 1 ≤ 9223372036854775807; omega⟩ ?_
                (conv => arg 5; whnf)
                refine wp_end ⟨k + 1, hlt, ⟨by repeat' first | exact trivial | refine ⟨.inl rfl, ?_⟩ | refine ⟨.inr rfl, ?_⟩ | refine ⟨.inr (congrArg (fun z => Sx.T.v (.bool z)) hfe), ?_⟩ | refine ⟨.inr (congrArg (fun z => Sx.T.v (.bool z)) hfe.symm), ?_⟩, ⟨by repeat' first | exact trivial | refine ⟨.inl rfl, ?_⟩ | refine ⟨.inr rfl, ?_⟩ | refine ⟨.inr (congrArg (fun z => Sx.T.v (.bool z)) hfe), ?_⟩ | refine ⟨.inr (congrArg (fun z => Sx.T.v (.bool z)) hfe.symm), ?_⟩, by repeat' first | exact trivial | refine ⟨.inl rfl, ?_⟩ | refine ⟨.inr rfl, ?_⟩ | refine ⟨.inr (congrArg (fun z => Sx.T.v (.bool z)) hfe), ?_⟩ | refine ⟨.inr (congrArg (fun z => Sx.T.v (.bool z)) hfe.symm), ?_⟩, fun _ h => h⟩, rfl⟩, by show hv.length - (k + 1) < hv.length - k; omega⟩
        · have hkn : k = hv.length := by have h3 := of_decide_eq_false (show decide ((k : Int) < (hv.length : Int)) = false from h1); omega
          subst hkn
          rw [hfn]
          (conv => arg 5; whnf)
          refine wp_prim (.bool true) (fun w => by rw [show decide ((pv.length : Int) > 0) = decide (0 < pv.length) from by simp]; cases decide (0 < pv.length) <;> rfl) ?_
          (conv => arg 5; whnf)
          refine wp_g1 (fun h4 => ?_) (fun h4 => by have h5 := of_decide_eq_false (show decide ((hv.length : Int) ≤ (n : Int)) = false from h4); omega)
          (conv => arg 5; whnf)
          refine meetc (f := 30) (v := .bool true) rfl (by kernel_rfl) (fun β ρ w' hM' => live w' (hM.later hM'.below)) ?_
          (conv => arg 5; whnf)
          exact wp_back fun β ρ w' hM' => ⟨rfl, hM'.below⟩
end Go.Proofs.YtohikebnlamnnaaDoor.greedyHeads
namespace Go.Proofs.YtohikebnlamnnaaDoor.greedyHeads
open Go.ChangeShapes Go.WideShapes Go.ChangeAt Go.RowKit
open Go.ChangeMaps (open_string shut_string)
set_option linter.unusedVariables false

theorem own : ownKnob Tryd.prog.godebug = none := by kernel_rfl
theorem laidOut : laidOutB Tryd.prog = true := by kernel_rfl

/-- A world in which the list of bounds lies as it was laid. -/
noncomputable def laidWorld (os : Os) : World :=
  let w0 := World.holding Tryd.prog os ⟨#[], #[], []⟩
  { w0 with heap := w0.heap.modify 0 fun
      | .cells _ t frozen => .cells #[.int .i64 255, .int .i64 4294967295, .int .i64 1099511627776, .int .i64 1099511627776, .int .i64 1073741824] t frozen
      | o => o }
theorem laid_met (os : Os) (args : Array Value) : laidMet Tryd.prog Rows.greedyHeadsRow.laid ((laidWorld os).forCall (fun _ _ => 0) ⟨#[], args, []⟩).memory :=
  laidMet_of_run (ps := [.cell 0 0, .cell 0 1, .cell 0 2, .cell 0 3, .cell 0 4]) 8 (by kernel_rfl) (by kernel_rfl) (by kernel_rfl)

set_option maxRecDepth 100000 in
theorem lifted (os : Os) (started : os.Started) (H : Type) (enc : TypeId × Value → H) :
    ReturnsInHanded {} Tryd.checked os 11 .any (fun w args => (Rows.greedyHeadsSpec.pre enc Tryd.prog Tryd.f11 Rows.greedyHeadsRow.domain false w args ∧ laidMet Tryd.prog Rows.greedyHeadsRow.laid w) ∧ sizedMet enc Tryd.prog Tryd.f11 (OpenSpec.ofChange Rows.greedyHeadsSpec) false w args) (Rows.greedyHeadsSpec.post enc Tryd.prog Tryd.f11 false true false false) := by
  refine returnsInHanded_of_change_and (C := Tryd.checked) (X := fun w _ => laidMet Tryd.prog Rows.greedyHeadsRow.laid w) (fun _ _ _ hh h => h.of_heap hh) own started (by kernel_rfl) Tryd.func11
    (ChangeSpec.witness_at (enc := enc) (C := Tryd.checked) (os := os) (X := fun w _ => laidMet Tryd.prog Rows.greedyHeadsRow.laid w) false (laidWorld os) #[.slice none 0 0, .int .i64 0] 8 rfl (by kernel_rfl) (by kernel_rfl) (by kernel_rfl) (by kernel_rfl) (by kernel_rfl) (laid_met os _)) ?_
  intro W base args ds gs before hval0 hW hcnd _ hL _
  have hval : ∀ (j : Nat) t v, Tryd.f11.params[j]? = some t → args[j]? = some v → Value.okWide Tryd.prog W .any base t v := hval0
  have hW' := hW
  obtain ⟨p, q, hA0, hV, rfl, hfz, hnd⟩ := hW
  have hA : DataW.TrodAll enc Tryd.prog W 0 (fun _ => true) true Tryd.f11.params.toList args.toList ds p := hA0
  rw [Tryd.params11] at hA hval
  obtain ⟨v0, vs0, d0, ds0, p0, q0, hargs, rfl, rfl, h0, r0⟩ := trodAll_cons hA
  obtain ⟨v1, vs1, d1, ds1, p1, q1, rfl, rfl, rfl, h1, r1⟩ := trodAll_cons r0
  obtain ⟨rfl, rfl, rfl⟩ := trodAll_nil r1
  obtain rfl : args = #[v0, v1] := by cases args; simp_all
  obtain ⟨rfl, rfl⟩ := trodVars_none hV
  have k0 := h0
  have lt0 : ∀ x ∈ p0, x.block < W.heap.size := by obtain ⟨m, hm⟩ := k0; exact DataW.trod_lt m _ _ _ hm
  obtain ⟨a0, n0, c0, l0, rfl, f0⟩ := greedy.open_accs (hval 0 24 v0 rfl rfl) h0
  have k1 := h1
  have lt1 : ∀ x ∈ p1, x.block < W.heap.size := by obtain ⟨m, hm⟩ := k1; exact DataW.trod_lt m _ _ _ hm
  obtain ⟨z1, rfl, f1⟩ := queue.open_fit (hval 1 3 v1 rfl rfl) h1
  clear hA0 hval0
  have hM : txn.Most W := txn.most_of_laid hL
  refine (walk a0 n0 c0 l0 z1 W hM f0 f1).mono fun e W' ⟨he, bel⟩ => ?_
  subst he
  exact ⟨_, rfl, _, _, _, [], _, [], hW', trodAll_mk1 (shut_bool Tryd.underlying4 _), (trodAll_cons_mk (Below.trod laidOut (by kernel_rfl) (of_decide_eq_true (by kernel_rfl)) k0 bel lt0) (trodAll_cons_mk (Below.trod laidOut (by kernel_rfl) (of_decide_eq_true (by kernel_rfl)) k1 bel lt1) trodAll_mk0)), rfl, bel.frame _, fun h => by cases h⟩

theorem over : Rows.GreedyHeadsSaid :=
  OpenClaim.holds_of_wide 11 Tryd.f11 rfl rfl rfl rfl rfl rfl rfl ⟨rfl, rfl, rfl, rfl, rfl⟩ rfl rfl rfl rfl rfl (by kernel_rfl) Tryd.func11 (by kernel_rfl)
    (of_decide_eq_true (by kernel_rfl)) (by unfold Func.isWrapper; first | (rw [if_pos (by decide +kernel)]; kernel_rfl) | (rw [if_neg (by decide +kernel)]; exact ⟨rfl, rfl⟩))
    (fun os started H enc _ => lifted os started H enc)

/-- THE STATEMENT. -/
theorem proved : Rows.GreedyHeadsCardSaid :=
  Claim7.holds_tied_plain_at .later [] [.data] true (true, "720f6701ae90a052211e6470d7d286ec70df9faa60d1833d35a594b593cda112") false
    over (fun _ h => by cases h) (by kernel_rfl) (fun _ h => by cases h) greedyHeads_row_tie rfl ⟨rfl, rfl⟩ (by kernel_rfl) rfl
    (fun f fn hf hfn => by
      obtain rfl : f = 11 := (Option.some.inj ((show Tryd.prog.funcNamed "hopper/hopperlaw12.GreedyHeads" = some 11 by kernel_rfl).symm.trans hf)).symm
      obtain rfl : fn = Tryd.f11 := (Option.some.inj (Tryd.func11.symm.trans hfn)).symm
      exact ⟨by kernel_rfl, fun j t ht => by
        rw [Tryd.params11] at ht
        match j, ht with
        | 0, ht =>
          obtain rfl : t = 24 := by simpa using ht.symm
          exact (show Tryd.prog.wantsStandIn 24 = false by kernel_rfl)
        | 1, ht =>
          obtain rfl : t = 3 := by simpa using ht.symm
          exact (show Tryd.prog.wantsStandIn 3 = false by kernel_rfl)
        | j + 2, ht => simp at ht⟩)
    (by kernel_rfl)
#print axioms proved
end Go.Proofs.YtohikebnlamnnaaDoor.greedyHeads
