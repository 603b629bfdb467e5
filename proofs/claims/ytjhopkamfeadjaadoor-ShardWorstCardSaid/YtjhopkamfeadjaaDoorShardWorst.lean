/- hopper/hopperlaw11.ShardWorst answers true at every input, and every argument reads behind the call as it read before; hopper/txn.most holds what the program's text lays there: the card ties it. No other condition. -/
import Derived.Test.YtjhopkamfeadjaaDoorRows
import Derived.Test.YtjhopkamfeadjaaDoorTxn
import Derived.OpenShut
import Derived.ChangeOld
import Derived.LaidLaws
import Derived.Test.YtjhopkamfeadjaaDoorShAll
import Derived.Test.YtjhopkamfeadjaaDoorCards
import Derived.Test.YtjhopkamfeadjaaDoorTie
import Derived.WalkKit
import Derived.ProofKit
import Derived.ShutString
import Derived.Below
import Derived.Handed
import Derived.SevenTiedAt
namespace Go.Proofs.YtjhopkamfeadjaaDoor.txn
open Go.RowKit Go.ChangeShapes Go.WideShapes
set_option linter.unusedVariables false

set_option maxRecDepth 100000 in
/-- From what is laid to the cells that Check reads. -/
theorem most_of_laid {W : World} (h : laidMet Tryd.prog [("hopper/txn.most", Rows.laid_hopper_txn_most)] W) : Most W := by
  obtain ⟨ps, ⟨g, t, cs, fuel, p, q, hg, ht, hvar, hd, _, _⟩, _⟩ := h
  obtain rfl := Option.some.inj ((show Tryd.prog.globalNamed "hopper/txn.most" = some 0 by kernel_rfl).symm.trans hg)
  obtain rfl := Option.some.inj ((show (Tryd.prog.globals[0]?).map (·.type) = some 108 by kernel_rfl).symm.trans ht)
  obtain ⟨xs, m, _, hx, hlen, hn, hi⟩ := DataW.trod_array Tryd.underlying108 hd
  have h5 : cs.toList.length = 5 := hlen.trans (by kernel_rfl)
  obtain ⟨l⟩ := cs
  match l, h5 with
  | [c0, c1, c2, c3, c4], _ =>
    match xs, hn with
    | [y0, y1, y2, y3, y4], _ =>
      have k3 : Tryd.prog.cellsOf 3 = 1 := by kernel_rfl
      have g0 := hi 0 (by omega)
      have g1 := hi 1 (by omega)
      have g2 := hi 2 (by omega)
      have g3 := hi 3 (by omega)
      have g4 := hi 4 (by omega)
      simp [k3] at g0 g1 g2 g3 g4
      obtain ⟨a0, e0, f0, _⟩ := DataW.trod_int Tryd.underlying3 g0
      obtain ⟨a1, e1, f1, _⟩ := DataW.trod_int Tryd.underlying3 g1
      obtain ⟨a2, e2, f2, _⟩ := DataW.trod_int Tryd.underlying3 g2
      obtain ⟨a3, e3, f3, _⟩ := DataW.trod_int Tryd.underlying3 g3
      obtain ⟨a4, e4, f4, _⟩ := DataW.trod_int Tryd.underlying3 g4
      simp at e0 e1 e2 e3 e4
      subst e0 e1 e2 e3 e4 f0 f1 f2 f3 f4
      simp [Rows.laid_hopper_txn_most] at hx
      obtain ⟨⟨r0, r1, r2, r3, r4⟩, _⟩ := hx
      subst r0 r1 r2 r3 r4
      have z0 := World.var?_cell hg hvar 0
      have z1 := World.var?_cell hg hvar 1
      have z2 := World.var?_cell hg hvar 2
      have z3 := World.var?_cell hg hvar 3
      have z4 := World.var?_cell hg hvar 4
      have hz : 0 < W.heap.size := by
        rcases Nat.eq_zero_or_pos W.heap.size with h0 | h0
        · exfalso
          simp [World.cell?, Array.getElem?_eq_none (show W.heap.size ≤ 0 by omega)] at z0
        · exact h0
      exact ⟨by simpa using z0, by simpa using z1, by simpa using z2, by simpa using z3, by simpa using z4, hz⟩
end Go.Proofs.YtjhopkamfeadjaaDoor.txn
namespace Go.Proofs.YtjhopkamfeadjaaDoor.shardWorst
open Go.RowKit Sx txn queue greedy shard
set_option linter.unusedVariables false
set_option linter.unusedSimpArgs false
/-- None of the last ones is worse, and the worst one is among them. -/
theorem worst_fit {L : List Ac} (h : 0 < (lastsV L).length) : (worstV L).1 ∈ lastsV L ∧ ∀ x ∈ lastsV L, betterV (worstV L).1 x = false := by
  unfold worstV
  rw [if_pos h]
  exact ⟨List.mem_of_getElem? (nx_get (by have := heap.worstTo_lt (lastsV L) (lastsV L).length; omega)), fun x hx => heap.nB.1 ((heap.worst_all h).1 x hx)⟩
set_option maxHeartbeats 4000000 in
set_option maxRecDepth 100000 in
theorem walk (a : Option Addr) (n c : Nat) (L : List Ac) (w : World) (hM : Most w) (hI : AccsIn w a n c L) :
    Calls Tryd.prog 4 (List.toArray [.slice a n c]) w fun e w' => e = .returned (.bool true) ∧ Below w.heap.size w w' := by
  refine calls_of_exec Sxs.env_ok.keeps Tryd.func4 rfl [(10, (line [0, 1, 2, 3, 4, 5, 6, 7, 8], [])), (12, (line [0, 1, 2, 3, 4, 5, 6, 7, 8, 9], []))] (schedQ_ok _ _ (by kernel_rfl)) (acsF a n L) hI.facts ?_
  have FW := fun w' (hM' : AccsIn w' a n c L) => fewW L 20 a n c w' hM'
  generalize hfb : (fewA L && decide ((n : Int) ≤ 20)) = fb at *
  (conv => arg 5; whnf)
  refine meetc (f := 7) (v := .bool fb) rfl (by kernel_rfl) (fun β ρ w' hM' => FW w' (hI.mem hM' fun φ hφ => hφ)) ?_
  cases fb with
  | false =>
    (conv => arg 5; whnf)
    refine meetc (f := 8) (v := .bool true) rfl (by kernel_rfl) (fun β ρ w' hM' => shard.live w' (hM.later hM'.below)) ?_
    (conv => arg 5; whnf)
    exact wp_back fun β ρ w' hM' => ⟨rfl, hM'.below⟩
  | true =>
    simp only [Bool.and_eq_true, decide_eq_true_eq] at hfb
    obtain ⟨hA, hx20⟩ := hI.few hfb.1
    have hs := hI.1
    have hn := hI.2.1
    have hn20 : n ≤ 20 := by omega
    have hd : ∀ t ∈ lastsV L, t.d.size ≤ maxLen := fun t ht => by obtain ⟨x, hx, htx⟩ := lastsV_mem ht; exact (hA.2.2.2 x hx).1.2.2.2 t htx
    have hll := lastsV_le L
    have WF := worst_fit (L := L)
    have hw2 : (worstV L).2 = decide (0 < (lastsV L).length) := by
      unfold worstV
      by_cases h : 0 < (lastsV L).length
      · rw [if_pos h, decide_eq_true h]
      · rw [if_neg h, decide_eq_false h]
    have WO := fun w hM hA => shard.worst L a n c w hM hA (by omega)
    rw [hw2] at WO
    have LA := fun w hA => lasts L a n c w hA (by omega)
    generalize (worstV L).1 = t at *
    clear hw2
    generalize lastsV L = l at *
    have RW := fun u cu w hM hs hr => heap.rworst_ l u l.length cu w hM hs rfl (by omega) hd hr
    generalize heap.worstTo l l.length = kw at *
    (conv => arg 5; whnf)
    refine meetc (f := 11) (v := .tuple #[t.val, .bool (decide (0 < l.length))]) rfl (by kernel_rfl) (fun β ρ w' hM' => WO w' (hM.later hM'.below) (Mem.acs hA hM' fun φ hφ => hφ)) ?_
    (conv => arg 5; whnf)
    refine meet1F (f := 16) (n := l.length) (v := fun a1 c1 => .slice a1 l.length c1) (xs := cellsL l) rfl (by kernel_rfl) (fun β ρ w' hM' => LA w' (Mem.acs hA hM' fun φ hφ => hφ)) (fun u c_u h_u f_u => ?_)
    (conv => arg 5; whnf)
    refine meetc (f := 18) (v := .tuple #[.int .i64 (kw : Nat), .bool (decide (0 < l.length))]) rfl (by kernel_rfl) (fun β ρ w' hM' => RW u c_u w' (hM.later hM'.below) h_u (hM'.at_ (.head _))) ?_
    have hu63 := h_u.le
    by_cases h0 : 0 < l.length
    · obtain ⟨htm, htb⟩ := WF h0
      rw [decide_eq_true h0]
      (conv => arg 5; whnf)
      refine loop_rule Sxs.env_ok.keeps [(10, (line [0, 1, 2, 3, 4, 5, 6, 7, 8], [])), (12, (line [0, 1, 2, 3, 4, 5, 6, 7, 8, 9], []))] (schedQ_ok _ _ (by kernel_rfl)) (fun k : Nat => k ≤ l.length) (fun k => (⟨[some ([.v (.int .i64 t.s), .v (.int .i64 t.n), .v (.int .i64 t.t), .v (.int .i64 t.c), .v (.int .i64 t.g), .v (.string t.d)], 32)], [], rowF (pt u l.length) (cellsL l) :: acsF a n L⟩, [.v (.slice a n c), .any, .any, .p 0 0, .v (.bool true), .v (.slice u l.length c_u), .any, .v (.bool true), .v (.bool ((l.take k).any fun x => sameT x t)), .v (.int .i64 k), .any, .any, .any, .any, .any, .any, .any, .any, .any, .any, .any, .any, .any, .any, .any, .any, .any, .any, .any, .any, .any, .any, .any, .any, .any, .any, .any, .any, .any, .any, .any, .any, .any, .any, .any, .any, .any, .any, .any, .any, .any, .any, .any, .any, .any, .any, .any, .any, .any, .any, .any, .any, .any, .any, .any, .any, .any, .any])) (fun k => l.length - k) 0 (Nat.zero_le _) ⟨by repeat' first | exact trivial | refine ⟨.inl rfl, ?_⟩ | refine ⟨.inr rfl, ?_⟩, ⟨by repeat' first | exact trivial | refine ⟨.inl rfl, ?_⟩ | refine ⟨.inr rfl, ?_⟩, by repeat' first | exact trivial | refine ⟨.inl rfl, ?_⟩ | refine ⟨.inr rfl, ?_⟩, fun _ h => h⟩, rfl⟩ ?_
      intro k hk
      have hfd : ∃ fd, ((l.take k).any fun x => sameT x t) = fd := ⟨_, rfl⟩
      obtain ⟨fd, hfd⟩ := hfd
      rw [hfd]
      (conv => arg 5; whnf)
      refine wp_br (fun h1 => ?_) (fun h1 => ?_)
      · have hlt : k < l.length := by have h3 := of_decide_eq_true (show decide ((k : Int) < (l.length : Int)) = true from h1); omega
        obtain ⟨x, hx⟩ : ∃ x, l[k]? = some x := ⟨_, List.getElem?_eq_getElem hlt⟩
        have hxm := List.mem_of_getElem? hx
        have htk : ((l.take (k + 1)).any fun x => sameT x t) = (fd || sameT x t) := by rw [List.take_add_one, hx, List.any_append, hfd]; simp
        have hbt := htb x hxm
        have BT := fun w hM => rbetter t x w hM (hd t htm) (hd x hxm)
        rw [hbt] at BT
        (conv => arg 5; whnf)
        refine wp_must ⟨by omega, by show (k : Int) < (l.length : Int); omega, h_u.some hlt⟩ ?_
        (conv => arg 5; whnf)
        refine readX (l := l) (k := k) (x := x) rfl (.head _) hlt (h_u.some hlt) hx rfl ?_
        (conv => arg 5; whnf)
        refine meetc (f := 19) (v := .bool false) rfl (by kernel_rfl) (fun β ρ w' hM' => BT w' (hM.later hM'.below)) ?_
        cases fd with
        | true =>
          have e : ((l.take (k + 1)).any fun x => sameT x t) = true := by rw [htk]; rfl
          (conv => arg 5; whnf)
          refine wp_must ⟨by show -9223372036854775808 ≤ (k : Int) + 1; omega, by show (k : Int) + 1 ≤ 9223372036854775807; omega⟩ ?_
          (conv => arg 5; whnf)
          refine wp_end ⟨k + 1, hlt, ⟨by rw [e]; repeat' first | exact trivial | refine ⟨.inl rfl, ?_⟩ | refine ⟨.inr rfl, ?_⟩, ⟨by repeat' first | exact trivial | refine ⟨.inl rfl, ?_⟩ | refine ⟨.inr rfl, ?_⟩, by repeat' first | exact trivial | refine ⟨.inl rfl, ?_⟩ | refine ⟨.inr rfl, ?_⟩, fun _ h => h⟩, rfl⟩, by show l.length - (k + 1) < l.length - k; omega⟩
        | false =>
          have e : ((l.take (k + 1)).any fun x => sameT x t) = sameT x t := by rw [htk]; rfl
          (conv => arg 5; whnf)
          refine wp_must ⟨by omega, by show (k : Int) < (l.length : Int); omega, h_u.some hlt⟩ ?_
          (conv => arg 5; whnf)
          refine readX (l := l) (k := k) (x := x) rfl (.head _) hlt (h_u.some hlt) hx rfl ?_
          (conv => arg 5; whnf)
          refine wp_prim (.bool (sameT x t)) (fun w => eq_any _ _ x t w) ?_
          (conv => arg 5; whnf)
          refine wp_must ⟨by show -9223372036854775808 ≤ (k : Int) + 1; omega, by show (k : Int) + 1 ≤ 9223372036854775807; omega⟩ ?_
          (conv => arg 5; whnf)
          refine wp_end ⟨k + 1, hlt, ⟨by rw [e]; repeat' first | exact trivial | refine ⟨.inl rfl, ?_⟩ | refine ⟨.inr rfl, ?_⟩, ⟨by repeat' first | exact trivial | refine ⟨.inl rfl, ?_⟩ | refine ⟨.inr rfl, ?_⟩, by repeat' first | exact trivial | refine ⟨.inl rfl, ?_⟩ | refine ⟨.inr rfl, ?_⟩, fun _ h => h⟩, rfl⟩, by show l.length - (k + 1) < l.length - k; omega⟩
      · have hkn : k = l.length := by have h3 := of_decide_eq_false (show decide ((k : Int) < (l.length : Int)) = false from h1); omega
        rw [List.take_of_length_le (by omega)] at hfd
        obtain rfl : fd = true := by rw [← hfd, List.any_eq_true]; exact ⟨t, htm, (sameT_iff t t).2 rfl⟩
        (conv => arg 5; whnf)
        refine wp_prim (.bool true) (fun w => rfl) ?_
        (conv => arg 5; whnf)
        refine wp_prim (.bool true) (fun w => rfl) ?_
        (conv => arg 5; whnf)
        refine wp_g1 (fun h2 => ?_) (fun h2 => by have h3 := of_decide_eq_false (show decide ((l.length : Int) ≤ (n : Int)) = false from h2); omega)
        (conv => arg 5; whnf)
        refine meetc (f := 8) (v := .bool true) rfl (by kernel_rfl) (fun β ρ w' hM' => shard.live w' (hM.later hM'.below)) ?_
        (conv => arg 5; whnf)
        exact wp_back fun β ρ w' hM' => ⟨rfl, hM'.below⟩
    · have hl0 : l = [] := List.eq_nil_of_length_eq_zero (by omega)
      rw [decide_eq_false h0]
      (conv => arg 5; whnf)
      refine loop_rule Sxs.env_ok.keeps [(10, (line [0, 1, 2, 3, 4, 5, 6, 7, 8], [])), (12, (line [0, 1, 2, 3, 4, 5, 6, 7, 8, 9], []))] (schedQ_ok _ _ (by kernel_rfl)) (fun k : Nat => k ≤ l.length) (fun k => (⟨[some ([.v (.int .i64 t.s), .v (.int .i64 t.n), .v (.int .i64 t.t), .v (.int .i64 t.c), .v (.int .i64 t.g), .v (.string t.d)], 32)], [], rowF (pt u l.length) (cellsL l) :: acsF a n L⟩, [.v (.slice a n c), .any, .any, .p 0 0, .v (.bool false), .v (.slice u l.length c_u), .any, .v (.bool false), .v (.bool ((l.take k).any fun x => sameT x t)), .v (.int .i64 k), .any, .any, .any, .any, .any, .any, .any, .any, .any, .any, .any, .any, .any, .any, .any, .any, .any, .any, .any, .any, .any, .any, .any, .any, .any, .any, .any, .any, .any, .any, .any, .any, .any, .any, .any, .any, .any, .any, .any, .any, .any, .any, .any, .any, .any, .any, .any, .any, .any, .any, .any, .any, .any, .any, .any, .any, .any, .any])) (fun k => l.length - k) 0 (Nat.zero_le _) ⟨by repeat' first | exact trivial | refine ⟨.inl rfl, ?_⟩ | refine ⟨.inr rfl, ?_⟩, ⟨by repeat' first | exact trivial | refine ⟨.inl rfl, ?_⟩ | refine ⟨.inr rfl, ?_⟩, by repeat' first | exact trivial | refine ⟨.inl rfl, ?_⟩ | refine ⟨.inr rfl, ?_⟩, fun _ h => h⟩, rfl⟩ ?_
      intro k hk
      have hfd : ∃ fd, ((l.take k).any fun x => sameT x t) = fd := ⟨_, rfl⟩
      obtain ⟨fd, hfd⟩ := hfd
      rw [hfd]
      (conv => arg 5; whnf)
      refine wp_br (fun h1 => ?_) (fun h1 => ?_)
      · have hlt : k < l.length := by have h3 := of_decide_eq_true (show decide ((k : Int) < (l.length : Int)) = true from h1); omega
        omega
      · have hkn : k = l.length := by have h3 := of_decide_eq_false (show decide ((k : Int) < (l.length : Int)) = false from h1); omega
        rw [List.take_of_length_le (by omega)] at hfd
        obtain rfl : fd = false := by rw [← hfd, hl0]; rfl
        (conv => arg 5; whnf)
        refine wp_prim (.bool true) (fun w => rfl) ?_
        (conv => arg 5; whnf)
        refine wp_prim (.bool true) (fun w => rfl) ?_
        (conv => arg 5; whnf)
        refine wp_g1 (fun h2 => ?_) (fun h2 => by have h3 := of_decide_eq_false (show decide ((l.length : Int) ≤ (n : Int)) = false from h2); omega)
        (conv => arg 5; whnf)
        refine meetc (f := 8) (v := .bool true) rfl (by kernel_rfl) (fun β ρ w' hM' => shard.live w' (hM.later hM'.below)) ?_
        (conv => arg 5; whnf)
        exact wp_back fun β ρ w' hM' => ⟨rfl, hM'.below⟩
end Go.Proofs.YtjhopkamfeadjaaDoor.shardWorst
namespace Go.Proofs.YtjhopkamfeadjaaDoor.shardWorst
open Go.ChangeShapes Go.WideShapes Go.ChangeAt Go.RowKit
open Go.ChangeMaps (open_string shut_string)
set_option linter.unusedVariables false

theorem own : ownKnob Tryd.prog.godebug = none := by kernel_rfl
theorem laidOut : laidOutB Tryd.prog = true := by kernel_rfl

/-- A world in which the list of bounds lies as it was laid. -/
noncomputable def laidWorld (os : Os) : World :=
  let w0 := World.holding Tryd.prog os ⟨#[], #[], []⟩
  { w0 with heap := w0.heap.modify 0 fun
      | .cells _ t frozen => .cells #[.int .i64 255, .int .i64 4294967295, .int .i64 1099511627776, .int .i64 1099511627776, .int .i64 1073741824] t frozen
      | o => o }
theorem laid_met (os : Os) (args : Array Value) : laidMet Tryd.prog Rows.shardWorstRow.laid ((laidWorld os).forCall (fun _ _ => 0) ⟨#[], args, []⟩).memory :=
  laidMet_of_run (ps := [.cell 0 0, .cell 0 1, .cell 0 2, .cell 0 3, .cell 0 4]) 8 (by kernel_rfl) (by kernel_rfl) (by kernel_rfl)

set_option maxRecDepth 100000 in
theorem lifted (os : Os) (started : os.Started) (H : Type) (enc : TypeId × Value → H) :
    ReturnsInHanded {} Tryd.checked os 4 .any (fun w args => (Rows.shardWorstSpec.pre enc Tryd.prog Tryd.f4 Rows.shardWorstRow.domain false w args ∧ laidMet Tryd.prog Rows.shardWorstRow.laid w) ∧ sizedMet enc Tryd.prog Tryd.f4 (OpenSpec.ofChange Rows.shardWorstSpec) false w args) (Rows.shardWorstSpec.post enc Tryd.prog Tryd.f4 false true false false) := by
  refine returnsInHanded_of_change_and (C := Tryd.checked) (X := fun w _ => laidMet Tryd.prog Rows.shardWorstRow.laid w) (fun _ _ _ hh h => h.of_heap hh) own started (by kernel_rfl) Tryd.func4
    (ChangeSpec.witness_at (enc := enc) (C := Tryd.checked) (os := os) (X := fun w _ => laidMet Tryd.prog Rows.shardWorstRow.laid w) false (laidWorld os) #[.slice none 0 0] 8 rfl (by kernel_rfl) (by kernel_rfl) (by kernel_rfl) (by kernel_rfl) (by kernel_rfl) (laid_met os _)) ?_
  intro W base args ds gs before hval0 hW hcnd _ hL _
  have hval : ∀ (j : Nat) t v, Tryd.f4.params[j]? = some t → args[j]? = some v → Value.okWide Tryd.prog W .any base t v := hval0
  have hW' := hW
  obtain ⟨p, q, hA0, hV, rfl, hfz, hnd⟩ := hW
  have hA : DataW.TrodAll enc Tryd.prog W 0 (fun _ => true) true Tryd.f4.params.toList args.toList ds p := hA0
  rw [Tryd.params4] at hA hval
  obtain ⟨v0, vs0, d0, ds0, p0, q0, hargs, rfl, rfl, h0, r0⟩ := trodAll_cons hA
  obtain ⟨rfl, rfl, rfl⟩ := trodAll_nil r0
  obtain rfl : args = #[v0] := by cases args; simp_all
  obtain ⟨rfl, rfl⟩ := trodVars_none hV
  have k0 := h0
  have lt0 : ∀ x ∈ p0, x.block < W.heap.size := by obtain ⟨m, hm⟩ := k0; exact DataW.trod_lt m _ _ _ hm
  obtain ⟨a0, n0, c0, l0, rfl, f0⟩ := greedy.open_accs (hval 0 24 v0 rfl rfl) h0
  clear hA0 hval0
  have hM : txn.Most W := txn.most_of_laid hL
  refine (walk a0 n0 c0 l0 W hM f0).mono fun e W' ⟨he, bel⟩ => ?_
  subst he
  exact ⟨_, rfl, _, _, _, [], _, [], hW', trodAll_mk1 (shut_bool Tryd.underlying4 _), (trodAll_cons_mk (Below.trod laidOut (by kernel_rfl) (of_decide_eq_true (by kernel_rfl)) k0 bel lt0) trodAll_mk0), rfl, bel.frame _, fun h => by cases h⟩

theorem over : Rows.ShardWorstSaid :=
  OpenClaim.holds_of_wide 4 Tryd.f4 rfl rfl rfl rfl rfl rfl rfl ⟨rfl, rfl, rfl, rfl, rfl⟩ rfl rfl rfl rfl rfl (by kernel_rfl) Tryd.func4 (by kernel_rfl)
    (of_decide_eq_true (by kernel_rfl)) (by unfold Func.isWrapper; first | (rw [if_pos (by decide +kernel)]; kernel_rfl) | (rw [if_neg (by decide +kernel)]; exact ⟨rfl, rfl⟩))
    (fun os started H enc _ => lifted os started H enc)

/-- THE STATEMENT. -/
theorem proved : Rows.ShardWorstCardSaid :=
  Claim7.holds_tied_plain_at .later [] [.data] true (true, "232ae9b689898a3150144e226dbef7ee7ee4e521089a7afbbdb41a0f3fa648a2") false
    over (fun _ h => by cases h) (by kernel_rfl) (fun _ h => by cases h) shardWorst_row_tie rfl ⟨rfl, rfl⟩ (by kernel_rfl) rfl
    (fun f fn hf hfn => by
      obtain rfl : f = 4 := (Option.some.inj ((show Tryd.prog.funcNamed "hopper/hopperlaw11.ShardWorst" = some 4 by kernel_rfl).symm.trans hf)).symm
      obtain rfl : fn = Tryd.f4 := (Option.some.inj (Tryd.func4.symm.trans hfn)).symm
      exact ⟨by kernel_rfl, fun j t ht => by
        rw [Tryd.params4] at ht
        match j, ht with
        | 0, ht =>
          obtain rfl : t = 24 := by simpa using ht.symm
          exact (show Tryd.prog.wantsStandIn 24 = false by kernel_rfl)
        | j + 1, ht => simp at ht⟩)
    (by kernel_rfl)
#print axioms proved
end Go.Proofs.YtjhopkamfeadjaaDoor.shardWorst
