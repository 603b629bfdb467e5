/- hopper/hopperlaw13.PoolRuns answers true at every input, and every argument reads behind the call as it read before; hopper/txn.most holds what the program's text lays there: the card ties it. No other condition. -/
import Derived.Test.YtofpmnkkimgkfaaGreatDoorRows
import Derived.Test.YtofpmnkkimgkfaaGreatDoorKTxn
import Derived.OpenShut
import Derived.ChangeOld
import Derived.LaidLaws
import Derived.Test.YtofpmnkkimgkfaaGreatDoorKPoAll
import Derived.Test.YtofpmnkkimgkfaaGreatDoorCards
import Derived.Test.YtofpmnkkimgkfaaGreatDoorTie
import Derived.WalkKit
import Derived.ProofKit
import Derived.ShutString
import Derived.Below
import Derived.Handed
import Derived.SevenTiedAt
set_option linter.all false
set_option maxHeartbeats 4000000
set_option maxRecDepth 100000
namespace Go.Proofs.YtofpmnkkimgkfaaGreatDoor.txn
open Go.RowKit Go.ChangeShapes Go.WideShapes
theorem most_of_laid {W : World} (h : laidMet Tryz.prog [("hopper/txn.most", Rows.laid_hopper_txn_most)] W) : Most W := by
 obtain ⟨ps, ⟨g, t, cs, fuel, p, q, hg, ht, hvar, hd, _, _⟩, _⟩ := h
 obtain rfl := Option.some.inj ((show Tryz.prog.globalNamed "hopper/txn.most" = some 0 by kernel_rfl).symm.trans hg)
 obtain rfl := Option.some.inj ((show (Tryz.prog.globals[0]?).map (·.type) = some 190 by kernel_rfl).symm.trans ht)
 obtain ⟨xs, m, _, hx, hlen, hn, hi⟩ := DataW.trod_array Tryz.underlying190 hd
 have h5 : cs.toList.length = 5 := hlen.trans (by kernel_rfl)
 obtain ⟨l⟩ := cs
 match l, h5 with
 | [c0, c1, c2, c3, c4], _ =>
  match xs, hn with
  | [y0, y1, y2, y3, y4], _ =>
   have k3 : Tryz.prog.cellsOf 3 = 1 := by kernel_rfl
   have g0 := hi 0 (by omega)
   have g1 := hi 1 (by omega)
   have g2 := hi 2 (by omega)
   have g3 := hi 3 (by omega)
   have g4 := hi 4 (by omega)
   simp [k3] at g0 g1 g2 g3 g4
   obtain ⟨a0, e0, f0, _⟩ := DataW.trod_int Tryz.underlying3 g0
   obtain ⟨a1, e1, f1, _⟩ := DataW.trod_int Tryz.underlying3 g1
   obtain ⟨a2, e2, f2, _⟩ := DataW.trod_int Tryz.underlying3 g2
   obtain ⟨a3, e3, f3, _⟩ := DataW.trod_int Tryz.underlying3 g3
   obtain ⟨a4, e4, f4, _⟩ := DataW.trod_int Tryz.underlying3 g4
   simp at e0 e1 e2 e3 e4
   subst e0 e1 e2 e3 e4 f0 f1 f2 f3 f4
   simp [Rows.laid_hopper_txn_most] at hx
   obtain ⟨⟨r0, r1, r2, r3, r4⟩, _⟩ := hx
   subst r0 r1 r2 r3 r4
   have z0 := World.var?_cell hg hvar 0
   have z1 := World.var?_cell hg hvar 1
   have z2 := World.var?_cell hg hvar 2
   have z3 := World.var?_cell hg hvar 3
   have z4 := World.var?_cell hg hvar 4
   have hz : 0 < W.heap.size := by
    rcases Nat.eq_zero_or_pos W.heap.size with h0 | h0
    ·exfalso
     simp [World.cell?, Array.getElem?_eq_none (show W.heap.size ≤ 0 by omega)] at z0
    ·exact h0
   exact ⟨by simpa using z0, by simpa using z1, by simpa using z2, by simpa using z3, by simpa using z4, hz⟩
end Go.Proofs.YtofpmnkkimgkfaaGreatDoor.txn
namespace Go.Proofs.YtofpmnkkimgkfaaGreatDoor.poolRuns
open Go.RowKit Sx txn queue greedy shard pool
theorem cellsZ_at : ∀ {l : List Rz} {k : Nat} {x : Rz}, l[k]? = some x → ∀ (j : Nat) (u : Value), x.cs[j]? = some u → (cellsZ l)[k * 9 + j]? = some u
 | [], k, x, h => by cases h
 | y :: l, 0, x, h => by
  cases h
  intro j u hu
  have hj : j < y.cs.length := (List.getElem?_eq_some_iff.1 hu).1
  show (y.cs ++ cellsZ l)[0 * 9 + j]? = some u
  rw [show 0 * 9 + j = j by omega, List.getElem?_append_left hj]
  exact hu
 | y :: l, k + 1, x, h => by
  intro j u hu
  have := cellsZ_at (l := l) (k := k) (x := x) h j u hu
  show (y.cs ++ cellsZ l)[(k + 1) * 9 + j]? = some u
  have hl : y.cs.length = 9 := rfl
  rw [List.getElem?_append_right (by omega), hl, show (k + 1) * 9 + j - 9 = k * 9 + j by omega]
  exact this
theorem walk (C : Cf) (a : Option Addr) (n c : Nat) (l : List Oq) (w : World) (hM : Most w) (hC : True) (hI : Sl a n c ∧ n = l.length ∧ At w (pt a n) (cellsO l) ∧ ∀ O ∈ l, O.fits) :
  Calls Tryz.prog 4 (List.toArray [C.val, .slice a n c]) w fun e w' => e = .returned (.bool true) ∧ Below w.heap.size w w' := by
 obtain ⟨hs, hn, hrow, hfit⟩ := hI
 refine calls_of_exec Sxs.env_ok.keeps.soon_ Tryz.func4 rfl [(3, (line [0, 1, 2, 3, 4, 5, 6, 7, 8, 9, 10], [])), (10, (line [0, 1, 2, 3, 4, 5, 6, 7, 8, 9], []))] (schedQ_ok _ _ (by kernel_rfl)) [rowF (pt a n) (cellsO l)] (at1 hrow) ?_
 have FW := fun w' hr => few_ l a n c 20 w' hs hn hr
 generalize hfb : (fewO l && decide ((n : Int) ≤ 20)) = fb at *
 conv=>arg 5;whnf
 refine meetc (f := 27) (v := .bool fb) rfl (by kernel_rfl) (fun β ρ w' hM' => FW w' (hM'.at_ (.head _))) ?_
 cases fb with
 | false =>
  conv=>arg 5;whnf
  refine meetc (f := 15) (v := .bool true) rfl (by kernel_rfl) (fun β ρ w' hM' => live w' (hM.later hM'.below)) ?_
  conv=>arg 5;whnf
  exact wp_back fun β ρ w' hM' => ⟨rfl, hM'.below⟩
 | true =>
  simp only [Bool.and_eq_true, decide_eq_true_eq] at hfb
  have hn20 : n ≤ 20 := by omega
  have hl : ∀ O ∈ l, O.d.size ≤ 1000000 ∧ -9223372036854775808 ≤ O.g ∧ O.g ≤ 9223372036854775807 := fun O hO => by
   have h1 := hfb.1
   unfold fewO at h1
   have h2 := of_decide_eq_true (List.all_eq_true.1 h1 O hO)
   have h3 := (hfit O hO).2.2.2.1
   unfold Fits at h3
   omega
  have R1 := fun p cp w hM (hs : Sl p n cp) hr => run C l p n cp w hM hs hn hr hl hn20
  have R2 := fun w hM hr => rrun C l a n c w hM hs hn hr hl hn20
  have hlen := (run_inv C l).2.2.2
  generalize runP C l = R at *
  conv=>arg 5;whnf
  refine meet1F (f := 29) (n := n) (v := fun a1 c1 => .slice a1 n c1) (xs := cellsO l) rfl (by kernel_rfl) (fun β ρ w' hM' => ops_ l a n c w' hs hn (hM'.at_ (.head _)) (by omega)) (fun p c_p h_p f_p => ?_)
  conv=>arg 5;whnf
  refine meetRn (f := 28) R rfl (by kernel_rfl) (fun β ρ w' hM' => R1 p c_p w' (hM.later hM'.below) h_p (hM'.at_ (.head _))) (fun x hx _ => ?_)
  conv=>arg 5;whnf
  refine meetRn (f := 30) R rfl (by kernel_rfl) (fun β ρ w' hM' => R2 w' (hM.later hM'.below) (hM'.at_ (show rowF (pt a n) (cellsO l) ∈ x.fs R ++ [rowF (pt p n) (cellsO l), rowF (pt a n) (cellsO l)] from List.mem_append_right _ (.tail _ (.head _))))) (fun z hz _ => ?_)
  obtain ⟨x1, x2, x3, x4, x5, x6, x7⟩ := hx
  obtain ⟨z1, z2, z3, z4, z5, z6, z7⟩ := hz
  have hxz : x.Z.length = z.Z.length := by have h1 := congrArg List.length x4; have h2 := congrArg List.length z4; rw [List.length_map] at h1 h2; omega
  have hx20 : x.Z.length ≤ 20 := by have h1 := congrArg List.length x4; rw [List.length_map] at h1; omega
  conv=>arg 5;whnf
  refine meetc (f := 18) (v := .bool true) rfl (by kernel_rfl) (fun β ρ w' hM' => raccounts x.L z.L (x1.trans z1.symm) x.a x.L.length x.c z.a z.L.length z.c w' (acs_of hM' x3 rfl x2 fun φ hφ => (show φ ∈ z.fs R ++ (x.fs R ++ [rowF (pt p n) (cellsO l), rowF (pt a n) (cellsO l)]) from List.mem_append_right _ (List.mem_append_left _ (.tail _ (.tail _ (List.mem_append_left _ hφ)))))) (acs_of hM' z3 rfl z2 fun φ hφ => (show φ ∈ z.fs R ++ (x.fs R ++ [rowF (pt p n) (cellsO l), rowF (pt a n) (cellsO l)]) from List.mem_append_left _ (.tail _ (.tail _ (List.mem_append_left _ hφ)))))) ?_
  conv=>arg 5;whnf
  refine wp_g0 (fun _ => ?_) (fun h => by rw [hxz] at h; simp at h)
  conv=>arg 5;whnf
  refine meetc (f := 20) (v := .bool true) rfl (by kernel_rfl) (fun β ρ w' hM' => revents R.2.2 x.ea x.ec z.ea z.ec w' x7 (hM'.at_ (show rowF (pt x.ea R.2.2.length) (cellsE R.2.2) ∈ z.fs R ++ (x.fs R ++ [rowF (pt p n) (cellsO l), rowF (pt a n) (cellsO l)]) from List.mem_append_right _ (List.mem_append_left _ (.tail _ (.head _))))) z7 (hM'.at_ (show rowF (pt z.ea R.2.2.length) (cellsE R.2.2) ∈ z.fs R ++ (x.fs R ++ [rowF (pt p n) (cellsO l), rowF (pt a n) (cellsO l)]) from List.mem_append_left _ (.tail _ (.head _))))) ?_
  conv=>arg 5;whnf
  refine loop_rule Sxs.env_ok.keeps.soon_ [(3, (line [0, 1, 2, 3, 4, 5, 6, 7, 8, 9, 10], [])), (10, (line [0, 1, 2, 3, 4, 5, 6, 7, 8, 9], []))] (schedQ_ok _ _ (by kernel_rfl)) (fun k : Nat => k ≤ x.Z.length) (fun k => (⟨[some ([.v (.int .i64 C.sh), .v (.int .i64 C.so), .v (.int .i64 C.hd), .v (.int .i64 C.per), .v (.int .i64 C.bp), .v (.int .i64 C.fd), .v (.int .i64 C.wk), .v (.int .i64 C.rm)], 23)], [], z.fs R ++ (x.fs R ++ [rowF (pt p n) (cellsO l), rowF (pt a n) (cellsO l)])⟩, [.any, .any, .any, .any, .any, .any, .v (.slice x.za x.Z.length x.zc), .any, .any, .v (.slice z.za z.Z.length z.zc), .any, .v (.int .i64 k), .any, .any, .any, .any, .any, .any, .any, .any, .any, .any, .any, .any, .any, .any, .any, .any, .any, .any, .any, .any, .any, .any, .any, .any, .any, .any, .any, .any, .any, .any, .any, .any, .any, .any, .any, .any, .any, .any, .any, .any, .any, .any, .any, .any, .any, .any, .any, .any, .any, .any, .any, .any, .any])) (fun k => x.Z.length - k) 0 (Nat.zero_le _) ⟨by repeat' first | exact trivial | refine ⟨.inl rfl, ?_⟩ | refine ⟨.inr rfl, ?_⟩, ⟨by repeat' first | exact trivial | refine ⟨.inl rfl, ?_⟩ | refine ⟨.inr rfl, ?_⟩, by repeat' first | exact trivial | refine ⟨.inl rfl, ?_⟩ | refine ⟨.inr rfl, ?_⟩, fun _ h => h⟩, rfl⟩ ?_
  intro k hk
  conv=>arg 5;whnf
  refine wp_br (fun h1 => ?_) (fun h1 => ?_)
  ·have hlt : k < x.Z.length := by have h3 := of_decide_eq_true (show decide ((k : Int) < (x.Z.length : Int)) = true from h1); omega
   have hltz : k < z.Z.length := by omega
   obtain ⟨y, hy⟩ : ∃ y, x.Z[k]? = some y := ⟨_, List.getElem?_eq_getElem (by omega)⟩
   obtain ⟨v, hv⟩ : ∃ v, z.Z[k]? = some v := ⟨_, List.getElem?_eq_getElem (by omega)⟩
   have hyr : y.r = v.r := by
    have h2 : (x.Z.map (·.r))[k]? = (z.Z.map (·.r))[k]? := by rw [x4, z4]
    rw [List.getElem?_map, List.getElem?_map, hy, hv] at h2
    exact Option.some.inj h2
   have hym := List.mem_of_getElem? hy
   have hvm := List.mem_of_getElem? hv
   have hs1 := x5 y hym
   have hs2 := z5 v hvm
   have m1 : rowF (pt y.a y.r.l.length) (cellsL y.r.l) ∈ z.fs R ++ (x.fs R ++ [rowF (pt p n) (cellsO l), rowF (pt a n) (cellsO l)]) := List.mem_append_right _ (List.mem_append_left _ (.tail _ (.tail _ (List.mem_append_right _ (List.mem_map.2 ⟨y, hym, rfl⟩)))))
   have m2 : rowF (pt v.a v.r.l.length) (cellsL v.r.l) ∈ z.fs R ++ (x.fs R ++ [rowF (pt p n) (cellsO l), rowF (pt a n) (cellsO l)]) := List.mem_append_left _ (.tail _ (.tail _ (List.mem_append_right _ (List.mem_map.2 ⟨v, hvm, rfl⟩))))
   have m3 : rowF (pt x.za x.Z.length) (cellsZ x.Z) ∈ z.fs R ++ (x.fs R ++ [rowF (pt p n) (cellsO l), rowF (pt a n) (cellsO l)]) := List.mem_append_right _ (List.mem_append_left _ (.head _))
   have m4 : rowF (pt z.za z.Z.length) (cellsZ z.Z) ∈ z.fs R ++ (x.fs R ++ [rowF (pt p n) (cellsO l), rowF (pt a n) (cellsO l)]) := List.mem_append_left _ (.head _)
   conv=>arg 5;whnf
   refine wp_must ⟨by omega, by show (k : Int) < (x.Z.length : Int); omega, x6.some hlt⟩ ?_
   conv=>arg 5;whnf
   refine readG Sxs.env_ok (vs := y.cs) (sz := 9) (k := k) rfl rfl m3 hlt (x6.some hlt) (cellsZ_at hy) rfl ?_
   conv=>arg 5;whnf
   refine wp_must ⟨by omega, by show (k : Int) < (z.Z.length : Int); omega, z6.some hltz⟩ ?_
   conv=>arg 5;whnf
   refine readG Sxs.env_ok (vs := v.cs) (sz := 9) (k := k) rfl rfl m4 hltz (z6.some hltz) (cellsZ_at hv) rfl ?_
   conv=>arg 5;whnf
   refine meetc (f := 19) (v := .bool true) rfl (by kernel_rfl) (fun β ρ w' hM' => ?_) ?_
   ·have g1 := hM'.at_ m1
    have g2 := hM'.at_ m2
    obtain ⟨yr, ya, yc⟩ := y
    obtain ⟨vr, va, vc⟩ := v
    have hyr : yr = vr := hyr
    subst hyr
    exact rsameR yr ya yc va vc w' hs1 g1 hs2 g2
   ·skip
    conv=>arg 5;whnf
    refine wp_must ⟨by show -9223372036854775808 ≤ (k : Int) + 1; omega, by show (k : Int) + 1 ≤ 9223372036854775807; omega⟩ ?_
    conv=>arg 5;whnf
    refine wp_end ⟨k + 1, hlt, ⟨by repeat' first | exact trivial | refine ⟨.inl rfl, ?_⟩ | refine ⟨.inr rfl, ?_⟩, ⟨by repeat' first | exact trivial | refine ⟨.inl rfl, ?_⟩ | refine ⟨.inr rfl, ?_⟩, by repeat' first | exact trivial | refine ⟨.inl rfl, ?_⟩ | refine ⟨.inr rfl, ?_⟩, fun _ h => h⟩, rfl⟩, by show x.Z.length - (k + 1) < x.Z.length - k; omega⟩
  ·skip
   conv=>arg 5;whnf
   refine meetc (f := 15) (v := .bool true) rfl (by kernel_rfl) (fun β ρ w' hM' => live w' (hM.later hM'.below)) ?_
   conv=>arg 5;whnf
   exact wp_back fun β ρ w' hM' => ⟨rfl, hM'.below⟩
end Go.Proofs.YtofpmnkkimgkfaaGreatDoor.poolRuns
namespace Go.Proofs.YtofpmnkkimgkfaaGreatDoor.poolRuns
open Go.ChangeShapes Go.WideShapes Go.ChangeAt Go.RowKit
open Go.ChangeMaps (open_string shut_string)
theorem own : ownKnob Tryz.prog.godebug = none := by kernel_rfl
theorem laidOut : laidOutB Tryz.prog = true := by kernel_rfl
noncomputable def laidWorld (os : Os) : World :=
 let w0 := World.holding Tryz.prog os ⟨#[], #[], []⟩
 { w0 with heap := w0.heap.modify 0 fun
   | .cells _ t frozen => .cells #[.int .i64 255, .int .i64 4294967295, .int .i64 1099511627776, .int .i64 1099511627776, .int .i64 1073741824] t frozen
   | o => o }
theorem laid_met (os : Os) (args : Array Value) : laidMet Tryz.prog Rows.poolRunsRow.laid ((laidWorld os).forCall (fun _ _ => 0) ⟨#[], args, []⟩).memory :=
 laidMet_of_run (ps := [.cell 0 0, .cell 0 1, .cell 0 2, .cell 0 3, .cell 0 4]) 8 (by kernel_rfl) (by kernel_rfl) (by kernel_rfl)
theorem lifted (os : Os) (started : os.Started) (H : Type) (enc : TypeId × Value → H) :
  ReturnsInHanded {} Tryz.checked os 4 .any (fun w args => (Rows.poolRunsSpec.pre enc Tryz.prog Tryz.f4 Rows.poolRunsRow.domain false w args ∧ laidMet Tryz.prog Rows.poolRunsRow.laid w) ∧ sizedMet enc Tryz.prog Tryz.f4 (OpenSpec.ofChange Rows.poolRunsSpec) false w args) (Rows.poolRunsSpec.post enc Tryz.prog Tryz.f4 false true false false) := by
 refine returnsInHanded_of_change_and (C := Tryz.checked) (X := fun w _ => laidMet Tryz.prog Rows.poolRunsRow.laid w) (fun _ _ _ hh h => h.of_heap hh) own started (by kernel_rfl) Tryz.func4
  (ChangeSpec.witness_at (enc := enc) (C := Tryz.checked) (os := os) (X := fun w _ => laidMet Tryz.prog Rows.poolRunsRow.laid w) false (laidWorld os) #[.agg #[.int .i64 0, .int .i64 0, .int .i64 0, .int .i64 0, .int .i64 0, .int .i64 0, .int .i64 0, .int .i64 0], .slice none 0 0] 8 rfl (by kernel_rfl) (by kernel_rfl) (by kernel_rfl) (by kernel_rfl) (by kernel_rfl) (laid_met os _)) ?_
 intro W base args ds gs before hval0 hW hcnd _ hL _
 have hval : ∀ (j : Nat) t v, Tryz.f4.params[j]? = some t → args[j]? = some v → Value.okWide Tryz.prog W .any base t v := hval0
 have hW' := hW
 obtain ⟨p, q, hA0, hV, rfl, hfz, hnd⟩ := hW
 have hA : DataW.TrodAll enc Tryz.prog W 0 (fun _ => true) true Tryz.f4.params.toList args.toList ds p := hA0
 rw [Tryz.params4] at hA hval
 obtain ⟨v0, vs0, d0, ds0, p0, q0, hargs, rfl, rfl, h0, r0⟩ := trodAll_cons hA
 obtain ⟨v1, vs1, d1, ds1, p1, q1, rfl, rfl, rfl, h1, r1⟩ := trodAll_cons r0
 obtain ⟨rfl, rfl, rfl⟩ := trodAll_nil r1
 obtain rfl : args = #[v0, v1] := by cases args; simp_all
 obtain ⟨rfl, rfl⟩ := trodVars_none hV
 have k0 := h0
 have lt0 : ∀ x ∈ p0, x.block < W.heap.size := by obtain ⟨m, hm⟩ := k0; exact DataW.trod_lt m _ _ _ hm
 obtain ⟨C0, rfl, f0⟩ := pool.open_cfg (hval 0 23 v0 rfl rfl) h0
 have k1 := h1
 have lt1 : ∀ x ∈ p1, x.block < W.heap.size := by obtain ⟨m, hm⟩ := k1; exact DataW.trod_lt m _ _ _ hm
 obtain ⟨a1, n1, c1, l1, rfl, f1⟩ := pool.open_ops (hval 1 49 v1 rfl rfl) h1
 clear hA0 hval0
 have hM : txn.Most W := txn.most_of_laid hL
 refine (walk C0 a1 n1 c1 l1 W hM f0 f1).mono fun e W' ⟨he, bel⟩ => ?_
 subst he
 exact ⟨_, rfl, _, _, _, [], _, [], hW', trodAll_mk1 (shut_bool Tryz.underlying4 _), (trodAll_cons_mk (Below.trod laidOut (by kernel_rfl) (of_decide_eq_true (by kernel_rfl)) k0 bel lt0) (trodAll_cons_mk (Below.trod laidOut (by kernel_rfl) (of_decide_eq_true (by kernel_rfl)) k1 bel lt1) trodAll_mk0)), rfl, bel.frame _, fun h => by cases h⟩
theorem over : Rows.PoolRunsSaid :=
 OpenClaim.holds_of_wide 4 Tryz.f4 rfl rfl rfl rfl rfl rfl rfl ⟨rfl, rfl, rfl, rfl, rfl⟩ rfl rfl rfl rfl rfl (by kernel_rfl) Tryz.func4 (by kernel_rfl)
  (of_decide_eq_true (by kernel_rfl)) (by unfold Func.isWrapper; first | (rw [if_pos (by decide +kernel)]; kernel_rfl) | (rw [if_neg (by decide +kernel)]; exact ⟨rfl, rfl⟩))
  (fun os started H enc _ => lifted os started H enc)
theorem proved : Rows.PoolRunsCardSaid :=
 Claim7.holds_tied_plain_at .later [] [.data] true (true, "d7a6610ef8b400b1696ea98ccecb2799c1cff8b5abd6bf6f50ead7769ba5ae9c") false
  over (fun _ h => by cases h) (by kernel_rfl) (fun _ h => by cases h) poolRuns_row_tie rfl ⟨rfl, rfl⟩ (by kernel_rfl) rfl
  (fun f fn hf hfn => by
   obtain rfl : f = 4 := (Option.some.inj ((show Tryz.prog.funcNamed "hopper/hopperlaw13.PoolRuns" = some 4 by kernel_rfl).symm.trans hf)).symm
   obtain rfl : fn = Tryz.f4 := (Option.some.inj (Tryz.func4.symm.trans hfn)).symm
   exact ⟨by kernel_rfl, fun j t ht => by
    rw [Tryz.params4] at ht
    match j, ht with
    | 0, ht =>
     obtain rfl : t = 23 := by simpa using ht.symm
     exact (show Tryz.prog.wantsStandIn 23 = false by kernel_rfl)
    | 1, ht =>
     obtain rfl : t = 49 := by simpa using ht.symm
     exact (show Tryz.prog.wantsStandIn 49 = false by kernel_rfl)
    | j + 2, ht => simp at ht⟩)
  (by kernel_rfl)
#print axioms proved
end Go.Proofs.YtofpmnkkimgkfaaGreatDoor.poolRuns
