/- hopper/hopperlaw11.ShardJoins answers true at every input, and every argument reads behind the call as it read before; hopper/txn.most holds what the program's text lays there: the card ties it. No other condition. -/
import Derived.Test.YtjhopkamfeadjaaDoorRows
import Derived.Test.YtjhopkamfeadjaaDoorTxn
import Derived.OpenShut
import Derived.ChangeOld
import Derived.LaidLaws
import Derived.Test.YtjhopkamfeadjaaDoorShAll
import Derived.Test.YtjhopkamfeadjaaDoorCards
import Derived.Test.YtjhopkamfeadjaaDoorTie
import Derived.WalkKit
import Derived.ProofKit
import Derived.ShutString
import Derived.Below
import Derived.Handed
import Derived.SevenTiedAt
namespace Go.Proofs.YtjhopkamfeadjaaDoor.txn
open Go.RowKit Go.ChangeShapes Go.WideShapes
set_option linter.unusedVariables false

set_option maxRecDepth 100000 in
/-- From what is laid to the cells that Check reads. -/
theorem most_of_laid {W : World} (h : laidMet Tryd.prog [("hopper/txn.most", Rows.laid_hopper_txn_most)] W) : Most W := by
  obtain ⟨ps, ⟨g, t, cs, fuel, p, q, hg, ht, hvar, hd, _, _⟩, _⟩ := h
  obtain rfl := Option.some.inj ((show Tryd.prog.globalNamed "hopper/txn.most" = some 0 by kernel_rfl).symm.trans hg)
  obtain rfl := Option.some.inj ((show (Tryd.prog.globals[0]?).map (·.type) = some 108 by kernel_rfl).symm.trans ht)
  obtain ⟨xs, m, _, hx, hlen, hn, hi⟩ := DataW.trod_array Tryd.underlying108 hd
  have h5 : cs.toList.length = 5 := hlen.trans (by kernel_rfl)
  obtain ⟨l⟩ := cs
  match l, h5 with
  | [c0, c1, c2, c3, c4], _ =>
    match xs, hn with
    | [y0, y1, y2, y3, y4], _ =>
      have k3 : Tryd.prog.cellsOf 3 = 1 := by kernel_rfl
      have g0 := hi 0 (by omega)
      have g1 := hi 1 (by omega)
      have g2 := hi 2 (by omega)
      have g3 := hi 3 (by omega)
      have g4 := hi 4 (by omega)
      simp [k3] at g0 g1 g2 g3 g4
      obtain ⟨a0, e0, f0, _⟩ := DataW.trod_int Tryd.underlying3 g0
      obtain ⟨a1, e1, f1, _⟩ := DataW.trod_int Tryd.underlying3 g1
      obtain ⟨a2, e2, f2, _⟩ := DataW.trod_int Tryd.underlying3 g2
      obtain ⟨a3, e3, f3, _⟩ := DataW.trod_int Tryd.underlying3 g3
      obtain ⟨a4, e4, f4, _⟩ := DataW.trod_int Tryd.underlying3 g4
      simp at e0 e1 e2 e3 e4
      subst e0 e1 e2 e3 e4 f0 f1 f2 f3 f4
      simp [Rows.laid_hopper_txn_most] at hx
      obtain ⟨⟨r0, r1, r2, r3, r4⟩, _⟩ := hx
      subst r0 r1 r2 r3 r4
      have z0 := World.var?_cell hg hvar 0
      have z1 := World.var?_cell hg hvar 1
      have z2 := World.var?_cell hg hvar 2
      have z3 := World.var?_cell hg hvar 3
      have z4 := World.var?_cell hg hvar 4
      have hz : 0 < W.heap.size := by
        rcases Nat.eq_zero_or_pos W.heap.size with h0 | h0
        · exfalso
          simp [World.cell?, Array.getElem?_eq_none (show W.heap.size ≤ 0 by omega)] at z0
        · exact h0
      exact ⟨by simpa using z0, by simpa using z1, by simpa using z2, by simpa using z3, by simpa using z4, hz⟩
end Go.Proofs.YtjhopkamfeadjaaDoor.txn
namespace Go.Proofs.YtjhopkamfeadjaaDoor.shardJoins
open Go.RowKit Sx txn queue greedy shard
set_option linter.unusedVariables false
set_option linter.unusedSimpArgs false
/-- Few shards, of few accounts, of little. -/
theorem shs_few {w : World} {a n c S} (h : ShsIn w a n c S) (hf : ∀ q ∈ S, (fewA q.L && decide ((q.n : Int) ≤ 20)) = true) : Shs w a n c S ∧ (∀ x ∈ allS S, Fits x.s) ∧ (∀ x ∈ allS S, x.l.length ≤ 20) ∧ (allS S).length ≤ S.length * 20 := by
  refine ⟨⟨h.1, h.2.1, h.2.2.1, fun q hq => ?_⟩, fun x hx => ?_, fun x hx => ?_, ?_⟩
  · have h1 := hf q hq
    simp only [Bool.and_eq_true] at h1
    exact ((h.2.2.2 q hq).1.few h1.1).1
  · obtain ⟨q, hq, hx⟩ := List.mem_flatMap.1 hx
    exact ((h.2.2.2 q hq).1.2.2.2 x hx).2.2.2.2.1
  · obtain ⟨q, hq, hx⟩ := List.mem_flatMap.1 hx
    have h1 := hf q hq
    simp only [Bool.and_eq_true] at h1
    exact ((h.2.2.2 q hq).1.few h1.1).2 x hx
  · have H : ∀ (S : List Shd), (∀ q ∈ S, q.L.length ≤ 20) → (allS S).length ≤ S.length * 20 := by
      intro S
      induction S with
      | nil => intro _; simp [allS]
      | cons q S ih =>
        intro h
        have h1 := h q (List.mem_cons_self ..)
        have h2 := ih fun p hp => h p (List.mem_cons_of_mem _ hp)
        unfold allS at *
        rw [List.flatMap_cons, List.length_append, List.length_cons]
        omega
    refine H S fun q hq => ?_
    have h1 := hf q hq
    simp only [Bool.and_eq_true, decide_eq_true_eq] at h1
    have := (h.2.2.2 q hq).1.2.1
    omega
set_option maxHeartbeats 4000000 in
set_option maxRecDepth 100000 in
theorem walk (a : Option Addr) (n c : Nat) (S : List Shd) (w : World) (hM : Most w) (hI : ShsIn w a n c S) :
    Calls Tryd.prog 3 (List.toArray [.slice a n c]) w fun e w' => e = .returned (.bool true) ∧ Below w.heap.size w w' := by
  have hs := hI.1
  have hn := hI.2.1
  have hn63 := hs.le
  refine calls_of_exec Sxs.env_ok.keeps Tryd.func3 rfl [] (schedQ_ok _ _ (by kernel_rfl)) (shsF a n S) hI.facts ?_
  (conv => arg 5; whnf)
  refine loop_rule Sxs.env_ok.keeps [] (schedQ_ok _ _ (by kernel_rfl)) (fun k : Nat => k ≤ n ∧ (0 < k → n ≤ 8) ∧ ∀ q ∈ S.take k, (fewA q.L && decide ((q.n : Int) ≤ 20)) = true) (fun k => (⟨[], [], shsF a n S⟩, [.v (.slice a n c), .any, .any, .v (.int .i64 k), .any, .any, .any, .any, .any, .any, .any, .any, .any, .any, .any, .any, .any, .any, .any, .any, .any, .any, .any, .any, .any, .any, .any, .any, .any, .any, .any, .any, .any, .any, .any, .any, .any, .any, .any, .any, .any, .any, .any, .any, .any, .any, .any, .any, .any, .any, .any, .any, .any, .any, .any, .any, .any, .any, .any, .any, .any, .any, .any, .any, .any, .any])) (fun k => n - k) 0 ⟨Nat.zero_le _, by omega, by simp⟩ ⟨by repeat' first | exact trivial | refine ⟨.inl rfl, ?_⟩ | refine ⟨.inr rfl, ?_⟩, ⟨by repeat' first | exact trivial | refine ⟨.inl rfl, ?_⟩ | refine ⟨.inr rfl, ?_⟩, by repeat' first | exact trivial | refine ⟨.inl rfl, ?_⟩ | refine ⟨.inr rfl, ?_⟩, fun _ h => h⟩, rfl⟩ ?_
  rintro k ⟨hk, hk8, hkf⟩
  (conv => arg 5; whnf)
  refine wp_br (fun h1 => ?_) (fun h1 => ?_)
  · have hlt : k < n := by have h3 := of_decide_eq_true (show decide ((k : Int) < (n : Int)) = true from h1); omega
    obtain ⟨q, hq⟩ : ∃ q, S[k]? = some q := ⟨_, List.getElem?_eq_getElem (by omega)⟩
    have hqm : q ∈ S := List.mem_of_getElem? hq
    have FW := fun w' (hM' : AccsIn w' q.a q.n q.c q.L) => fewW q.L 20 q.a q.n q.c w' hM'
    have htk : S.take (k + 1) = S.take k ++ [q] := by rw [List.take_add_one, hq]; rfl
    generalize hfb : (fewA q.L && decide ((q.n : Int) ≤ 20)) = fb at *
    (conv => arg 5; whnf)
    refine wp_must ⟨by omega, by show (k : Int) < (n : Int); omega, hs.some hlt⟩ ?_
    (conv => arg 5; whnf)
    refine readF (sz := 2) (k := k) (f := 0) (.slice q.a q.n q.c) rfl (.head _) hlt (hs.some hlt) (cellsS_at hq 0 _ rfl) rfl ?_
    (conv => arg 5; whnf)
    refine meetc (f := 7) (v := .bool fb) rfl (by kernel_rfl) (fun β ρ w' hM' => FW w' ((hI.mem hM' fun φ hφ => hφ).2.2.2 q hqm).1) ?_
    cases fb with
    | false =>
      (conv => arg 5; whnf)
      refine meetc (f := 8) (v := .bool true) rfl (by kernel_rfl) (fun β ρ w' hM' => shard.live w' (hM.later hM'.below)) ?_
      (conv => arg 5; whnf)
      exact wp_back fun β ρ w' hM' => ⟨rfl, hM'.below⟩
    | true =>
      (conv => arg 5; whnf)
      refine wp_br (fun h2 => ?_) (fun h2 => ?_)
      · skip
        (conv => arg 5; whnf)
        refine meetc (f := 8) (v := .bool true) rfl (by kernel_rfl) (fun β ρ w' hM' => shard.live w' (hM.later hM'.below)) ?_
        (conv => arg 5; whnf)
        exact wp_back fun β ρ w' hM' => ⟨rfl, hM'.below⟩
      · have h8 : n ≤ 8 := by have h3 : ¬ (8 : Int) < (n : Int) := of_decide_eq_false h2; omega
        (conv => arg 5; whnf)
        refine wp_must ⟨by show -9223372036854775808 ≤ (k : Int) + 1; omega, by show (k : Int) + 1 ≤ 9223372036854775807; omega⟩ ?_
        (conv => arg 5; whnf)
        refine wp_end ⟨k + 1, ⟨hlt, fun _ => h8, fun p hp => ?_⟩, ⟨by repeat' first | exact trivial | refine ⟨.inl rfl, ?_⟩ | refine ⟨.inr rfl, ?_⟩, ⟨by repeat' first | exact trivial | refine ⟨.inl rfl, ?_⟩ | refine ⟨.inr rfl, ?_⟩, by repeat' first | exact trivial | refine ⟨.inl rfl, ?_⟩ | refine ⟨.inr rfl, ?_⟩, fun _ h => h⟩, rfl⟩, by show n - (k + 1) < n - k; omega⟩
        rw [htk] at hp
        rcases List.mem_append.1 hp with hp | hp
        · exact hkf p hp
        · obtain rfl := List.mem_singleton.1 hp; exact hfb
  · have hkn : k = n := by have h3 := of_decide_eq_false (show decide ((k : Int) < (n : Int)) = false from h1); omega
    have e : S.take k = S := List.take_of_length_le (by omega)
    rw [e] at hkf
    obtain ⟨hS, hfits, hl20, hlen⟩ := shs_few hI hkf
    have hn8 : S.length ≤ 8 := by rcases Nat.eq_zero_or_pos k with h0 | h0; omega; have := hk8 h0; omega
    have hall : (allS S).length ≤ 100000 := by omega
    clear h1 hk hk8 hkf e hkn
    (conv => arg 5; whnf)
    refine meet1F (f := 10) (n := n) (v := fun a1 c1 => .slice a1 n c1) (xs := cellsS S) rfl (by kernel_rfl) (fun β ρ w' hM' => own S a n c w' hs hn (hM'.at_ (.head _)) (by omega)) (fun p c_p h_p f_p => ?_)
    (conv => arg 5; whnf)
    refine meetAs (f := 9) ((srt (fun x : Ac => x.s) (allS S)).map acP) rfl (by kernel_rfl) (fun β ρ w' hM' => join S p n c_p w' ⟨h_p, hn, hM'.at_ (.head _), fun q hq => (Mem.shs hS hM' fun φ hφ => .tail _ hφ).2.2.2 q hq⟩ (by omega) hall hfits) (fun Ls j c_j hLs hf h_j f_j => ?_)
    have hLl : Ls.length = (allS S).length := by have := congrArg List.length hLs; rw [List.length_map, List.length_map, srt_len] at this; exact this
    have hla : lastsV Ls = lastsV (srt (fun x : Ac => x.s) (allS S)) := by
      have h5 := congrArg (List.map fun p : PA => p.2.2) hLs
      rw [List.map_map, List.map_map] at h5
      unfold lastsV
      rw [show (Ls.map fun x => x.l) = (srt (fun x : Ac => x.s) (allS S)).map (fun x => x.l) from h5]
    have hwo : worstV (srt (fun x : Ac => x.s) (allS S)) = worstV Ls := by unfold worstV; rw [hla]
    have hfit2 : ∀ x ∈ srt (fun x : Ac => x.s) (allS S), x.fit ∧ acF x ∈ shsF a n S := fun x hx => by
      have hx2 := (srt_perm (fun x : Ac => x.s) (allS S)).mem_iff.1 hx
      exact ⟨(acs_all hS x hx2).1, acF_all hx2⟩
    have hsl := srt_len (fun x : Ac => x.s) (allS S)
    have WO := fun w hM hA => worst Ls j Ls.length c_j w hM hA (by omega)
    have RWO := fun u cu w hM hA => rworst (srt (fun x : Ac => x.s) (allS S)) u (srt (fun x : Ac => x.s) (allS S)).length cu w hM hA (by omega)
    have RJ := fun w hA => rjoin S a n c w hA (by omega) hall
    have LA := fun w hA => lasts Ls j Ls.length c_j w hA (by omega)
    have RLA := fun w hA => rlasts Ls j Ls.length c_j w hA (by omega)
    rw [hwo] at RWO
    have RACC := fun u cu w h1 h2 => raccounts Ls (srt (fun x : Ac => x.s) (allS S)) hLs j Ls.length c_j u (srt (fun x : Ac => x.s) (allS S)).length cu w h1 h2
    generalize srt (fun x : Ac => x.s) (allS S) = R at *
    generalize worstV Ls = wv at *
    generalize lastsV Ls = lv at *
    have hJ0 : ∀ φ ∈ acsF j Ls.length Ls, φ ∈ acsF j Ls.length Ls ++ (rowF (pt p n) (cellsS S) :: shsF a n S) := fun φ hφ => List.mem_append_left _ hφ
    have hS0 : ∀ φ ∈ shsF a n S, φ ∈ acsF j Ls.length Ls ++ (rowF (pt p n) (cellsS S) :: shsF a n S) := fun φ hφ => List.mem_append_right _ (.tail _ hφ)
    (conv => arg 5; whnf)
    refine meetc (f := 11) (v := .tuple #[wv.1.val, .bool wv.2]) rfl (by kernel_rfl) (fun β ρ w' hM' => WO w' (hM.later hM'.below) (acs_of hM' h_j rfl hf fun φ hφ => hJ0 φ hφ)) ?_
    (conv => arg 5; whnf)
    refine meet1F (f := 13) (n := R.length) (v := fun a1 c1 => .slice a1 R.length c1) (xs := cellsA R) rfl (by kernel_rfl) (fun β ρ w' hM' => RJ w' (Mem.shs hS hM' fun φ hφ => hS0 φ hφ)) (fun u c_u h_u f_u => ?_)
    (conv => arg 5; whnf)
    refine meetc (f := 12) (v := .tuple #[wv.1.val, .bool wv.2]) rfl (by kernel_rfl) (fun β ρ w' hM' => RWO u c_u w' (hM.later hM'.below) ⟨h_u, rfl, hM'.at_ (.head _), fun x hx => ⟨(hfit2 x hx).1, hM'.at_ (a := pt x.a x.n) (xs := cellsL x.l) (.tail _ (hS0 _ (hfit2 x hx).2))⟩⟩) ?_
    (conv => arg 5; whnf)
    refine meet1F (f := 13) (n := R.length) (v := fun a1 c1 => .slice a1 R.length c1) (xs := cellsA R) rfl (by kernel_rfl) (fun β ρ w' hM' => RJ w' (Mem.shs hS hM' fun φ hφ => .tail _ (hS0 φ hφ))) (fun v c_v h_v f_v => ?_)
    (conv => arg 5; whnf)
    refine meetc (f := 14) (v := .bool true) rfl (by kernel_rfl) (fun β ρ w' hM' => RACC v c_v w' (acs_of hM' h_j rfl hf fun φ hφ => .tail _ (.tail _ (hJ0 φ hφ))) ⟨h_v, rfl, hM'.at_ (.head _), fun x hx => ⟨(hfit2 x hx).1, hM'.at_ (a := pt x.a x.n) (xs := cellsL x.l) (.tail _ (.tail _ (hS0 _ (hfit2 x hx).2)))⟩⟩) ?_
    (conv => arg 5; whnf)
    refine wp_prim (.bool true) (fun w => eq_same' _ _ wv.1 w) ?_
    (conv => arg 5; whnf)
    refine wp_prim (.bool true) (fun w => by cases wv.2 <;> rfl) ?_
    (conv => arg 5; whnf)
    refine meet1F (f := 16) (n := lv.length) (v := fun a1 c1 => .slice a1 lv.length c1) (xs := cellsL lv) rfl (by kernel_rfl) (fun β ρ w' hM' => LA w' (acs_of hM' h_j rfl hf fun φ hφ => .tail _ (.tail _ (hJ0 φ hφ)))) (fun x c_x h_x f_x => ?_)
    (conv => arg 5; whnf)
    refine meet1F (f := 17) (n := lv.length) (v := fun a1 c1 => .slice a1 lv.length c1) (xs := cellsL lv) rfl (by kernel_rfl) (fun β ρ w' hM' => RLA w' (acs_of hM' h_j rfl hf fun φ hφ => .tail _ (.tail _ (.tail _ (hJ0 φ hφ))))) (fun y c_y h_y f_y => ?_)
    (conv => arg 5; whnf)
    refine meetc (f := 15) (v := .bool true) rfl (by kernel_rfl) (fun β ρ w' hM' => rtxs lv x lv.length c_x y c_y w' h_x rfl (hM'.at_ (.tail _ (.head _))) h_y (hM'.at_ (.head _))) ?_
    (conv => arg 5; whnf)
    refine meetc (f := 8) (v := .bool true) rfl (by kernel_rfl) (fun β ρ w' hM' => shard.live w' (hM.later hM'.below)) ?_
    (conv => arg 5; whnf)
    exact wp_back fun β ρ w' hM' => ⟨rfl, hM'.below⟩
end Go.Proofs.YtjhopkamfeadjaaDoor.shardJoins
namespace Go.Proofs.YtjhopkamfeadjaaDoor.shardJoins
open Go.ChangeShapes Go.WideShapes Go.ChangeAt Go.RowKit
open Go.ChangeMaps (open_string shut_string)
set_option linter.unusedVariables false

theorem own : ownKnob Tryd.prog.godebug = none := by kernel_rfl
theorem laidOut : laidOutB Tryd.prog = true := by kernel_rfl

/-- A world in which the list of bounds lies as it was laid. -/
noncomputable def laidWorld (os : Os) : World :=
  let w0 := World.holding Tryd.prog os ⟨#[], #[], []⟩
  { w0 with heap := w0.heap.modify 0 fun
      | .cells _ t frozen => .cells #[.int .i64 255, .int .i64 4294967295, .int .i64 1099511627776, .int .i64 1099511627776, .int .i64 1073741824] t frozen
      | o => o }
theorem laid_met (os : Os) (args : Array Value) : laidMet Tryd.prog Rows.shardJoinsRow.laid ((laidWorld os).forCall (fun _ _ => 0) ⟨#[], args, []⟩).memory :=
  laidMet_of_run (ps := [.cell 0 0, .cell 0 1, .cell 0 2, .cell 0 3, .cell 0 4]) 8 (by kernel_rfl) (by kernel_rfl) (by kernel_rfl)

set_option maxRecDepth 100000 in
theorem lifted (os : Os) (started : os.Started) (H : Type) (enc : TypeId × Value → H) :
    ReturnsInHanded {} Tryd.checked os 3 .any (fun w args => (Rows.shardJoinsSpec.pre enc Tryd.prog Tryd.f3 Rows.shardJoinsRow.domain false w args ∧ laidMet Tryd.prog Rows.shardJoinsRow.laid w) ∧ sizedMet enc Tryd.prog Tryd.f3 (OpenSpec.ofChange Rows.shardJoinsSpec) false w args) (Rows.shardJoinsSpec.post enc Tryd.prog Tryd.f3 false true false false) := by
  refine returnsInHanded_of_change_and (C := Tryd.checked) (X := fun w _ => laidMet Tryd.prog Rows.shardJoinsRow.laid w) (fun _ _ _ hh h => h.of_heap hh) own started (by kernel_rfl) Tryd.func3
    (ChangeSpec.witness_at (enc := enc) (C := Tryd.checked) (os := os) (X := fun w _ => laidMet Tryd.prog Rows.shardJoinsRow.laid w) false (laidWorld os) #[.slice none 0 0] 8 rfl (by kernel_rfl) (by kernel_rfl) (by kernel_rfl) (by kernel_rfl) (by kernel_rfl) (laid_met os _)) ?_
  intro W base args ds gs before hval0 hW hcnd _ hL _
  have hval : ∀ (j : Nat) t v, Tryd.f3.params[j]? = some t → args[j]? = some v → Value.okWide Tryd.prog W .any base t v := hval0
  have hW' := hW
  obtain ⟨p, q, hA0, hV, rfl, hfz, hnd⟩ := hW
  have hA : DataW.TrodAll enc Tryd.prog W 0 (fun _ => true) true Tryd.f3.params.toList args.toList ds p := hA0
  rw [Tryd.params3] at hA hval
  obtain ⟨v0, vs0, d0, ds0, p0, q0, hargs, rfl, rfl, h0, r0⟩ := trodAll_cons hA
  obtain ⟨rfl, rfl, rfl⟩ := trodAll_nil r0
  obtain rfl : args = #[v0] := by cases args; simp_all
  obtain ⟨rfl, rfl⟩ := trodVars_none hV
  have k0 := h0
  have lt0 : ∀ x ∈ p0, x.block < W.heap.size := by obtain ⟨m, hm⟩ := k0; exact DataW.trod_lt m _ _ _ hm
  obtain ⟨a0, n0, c0, l0, rfl, f0⟩ := shard.open_shards (hval 0 22 v0 rfl rfl) h0
  clear hA0 hval0
  have hM : txn.Most W := txn.most_of_laid hL
  refine (walk a0 n0 c0 l0 W hM f0).mono fun e W' ⟨he, bel⟩ => ?_
  subst he
  exact ⟨_, rfl, _, _, _, [], _, [], hW', trodAll_mk1 (shut_bool Tryd.underlying4 _), (trodAll_cons_mk (Below.trod laidOut (by kernel_rfl) (of_decide_eq_true (by kernel_rfl)) k0 bel lt0) trodAll_mk0), rfl, bel.frame _, fun h => by cases h⟩

theorem over : Rows.ShardJoinsSaid :=
  OpenClaim.holds_of_wide 3 Tryd.f3 rfl rfl rfl rfl rfl rfl rfl ⟨rfl, rfl, rfl, rfl, rfl⟩ rfl rfl rfl rfl rfl (by kernel_rfl) Tryd.func3 (by kernel_rfl)
    (of_decide_eq_true (by kernel_rfl)) (by unfold Func.isWrapper; first | (rw [if_pos (by decide +kernel)]; kernel_rfl) | (rw [if_neg (by decide +kernel)]; exact ⟨rfl, rfl⟩))
    (fun os started H enc _ => lifted os started H enc)

/-- THE STATEMENT. -/
theorem proved : Rows.ShardJoinsCardSaid :=
  Claim7.holds_tied_plain_at .later [] [.data] true (true, "232ae9b689898a3150144e226dbef7ee7ee4e521089a7afbbdb41a0f3fa648a2") false
    over (fun _ h => by cases h) (by kernel_rfl) (fun _ h => by cases h) shardJoins_row_tie rfl ⟨rfl, rfl⟩ (by kernel_rfl) rfl
    (fun f fn hf hfn => by
      obtain rfl : f = 3 := (Option.some.inj ((show Tryd.prog.funcNamed "hopper/hopperlaw11.ShardJoins" = some 3 by kernel_rfl).symm.trans hf)).symm
      obtain rfl : fn = Tryd.f3 := (Option.some.inj (Tryd.func3.symm.trans hfn)).symm
      exact ⟨by kernel_rfl, fun j t ht => by
        rw [Tryd.params3] at ht
        match j, ht with
        | 0, ht =>
          obtain rfl : t = 22 := by simpa using ht.symm
          exact (show Tryd.prog.wantsStandIn 22 = false by kernel_rfl)
        | j + 1, ht => simp at ht⟩)
    (by kernel_rfl)
#print axioms proved
end Go.Proofs.YtjhopkamfeadjaaDoor.shardJoins
