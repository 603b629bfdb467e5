/- hopper/hopperlaw11.ShardSlots answers true at every input, and every argument reads behind the call as it read before; hopper/txn.most holds what the program's text lays there: the card ties it. No other condition. -/
import Derived.Test.YtjhopkamfeadjaaDoorRows
import Derived.Test.YtjhopkamfeadjaaDoorTxn
import Derived.OpenShut
import Derived.ChangeOld
import Derived.LaidLaws
import Derived.Test.YtjhopkamfeadjaaDoorShardJoinsWalk
import Derived.Test.YtjhopkamfeadjaaDoorCards
import Derived.Test.YtjhopkamfeadjaaDoorTie
import Derived.Test.YtjhopkamfeadjaaDoorShAll
import Derived.WalkKit
import Derived.ProofKit
import Derived.ShutString
import Derived.Below
import Derived.Handed
import Derived.SevenTiedAt
namespace Go.Proofs.YtjhopkamfeadjaaDoor.txn
open Go.RowKit Go.ChangeShapes Go.WideShapes
set_option linter.unusedVariables false

set_option maxRecDepth 100000 in
/-- From what is laid to the cells that Check reads. -/
theorem most_of_laid {W : World} (h : laidMet Tryd.prog [("hopper/txn.most", Rows.laid_hopper_txn_most)] W) : Most W := by
  obtain ⟨ps, ⟨g, t, cs, fuel, p, q, hg, ht, hvar, hd, _, _⟩, _⟩ := h
  obtain rfl := Option.some.inj ((show Tryd.prog.globalNamed "hopper/txn.most" = some 0 by kernel_rfl).symm.trans hg)
  obtain rfl := Option.some.inj ((show (Tryd.prog.globals[0]?).map (·.type) = some 108 by kernel_rfl).symm.trans ht)
  obtain ⟨xs, m, _, hx, hlen, hn, hi⟩ := DataW.trod_array Tryd.underlying108 hd
  have h5 : cs.toList.length = 5 := hlen.trans (by kernel_rfl)
  obtain ⟨l⟩ := cs
  match l, h5 with
  | [c0, c1, c2, c3, c4], _ =>
    match xs, hn with
    | [y0, y1, y2, y3, y4], _ =>
      have k3 : Tryd.prog.cellsOf 3 = 1 := by kernel_rfl
      have g0 := hi 0 (by omega)
      have g1 := hi 1 (by omega)
      have g2 := hi 2 (by omega)
      have g3 := hi 3 (by omega)
      have g4 := hi 4 (by omega)
      simp [k3] at g0 g1 g2 g3 g4
      obtain ⟨a0, e0, f0, _⟩ := DataW.trod_int Tryd.underlying3 g0
      obtain ⟨a1, e1, f1, _⟩ := DataW.trod_int Tryd.underlying3 g1
      obtain ⟨a2, e2, f2, _⟩ := DataW.trod_int Tryd.underlying3 g2
      obtain ⟨a3, e3, f3, _⟩ := DataW.trod_int Tryd.underlying3 g3
      obtain ⟨a4, e4, f4, _⟩ := DataW.trod_int Tryd.underlying3 g4
      simp at e0 e1 e2 e3 e4
      subst e0 e1 e2 e3 e4 f0 f1 f2 f3 f4
      simp [Rows.laid_hopper_txn_most] at hx
      obtain ⟨⟨r0, r1, r2, r3, r4⟩, _⟩ := hx
      subst r0 r1 r2 r3 r4
      have z0 := World.var?_cell hg hvar 0
      have z1 := World.var?_cell hg hvar 1
      have z2 := World.var?_cell hg hvar 2
      have z3 := World.var?_cell hg hvar 3
      have z4 := World.var?_cell hg hvar 4
      have hz : 0 < W.heap.size := by
        rcases Nat.eq_zero_or_pos W.heap.size with h0 | h0
        · exfalso
          simp [World.cell?, Array.getElem?_eq_none (show W.heap.size ≤ 0 by omega)] at z0
        · exact h0
      exact ⟨by simpa using z0, by simpa using z1, by simpa using z2, by simpa using z3, by simpa using z4, hz⟩
end Go.Proofs.YtjhopkamfeadjaaDoor.txn
namespace Go.Proofs.YtjhopkamfeadjaaDoor.shardSlots
open Go.RowKit Sx txn queue greedy shard shardJoins
set_option linter.unusedVariables false
set_option linter.unusedSimpArgs false
theorem slotsA_app (X Y : List Ac) : slotsA (X ++ Y) = slotsA X + slotsA Y := by simp [slotsA]
theorem slotsA_bd (L : List Ac) (h : ∀ x ∈ L, x.l.length ≤ 20) : 0 ≤ slotsA L ∧ slotsA L ≤ 13000000 * L.length := by
  induction L with
  | nil => simp [slotsA]
  | cons x L ih =>
    have h2 := ih fun y hy => h y (List.mem_cons_of_mem _ hy)
    have h1 := slotsL_bd x.l
    have e : slotsA (x :: L) = slotsL x.l + slotsA L := by simp [slotsA]
    rw [e, List.length_cons]
    push_cast
    have h3 := h x (List.mem_cons_self ..)
    omega
theorem allS_len (S : List Shd) (h : ∀ q ∈ S, q.L.length ≤ 20) : (allS S).length ≤ S.length * 20 := by
  induction S with
  | nil => simp [allS]
  | cons q S ih =>
    have h1 := h q (List.mem_cons_self ..)
    have h2 := ih fun p hp => h p (List.mem_cons_of_mem _ hp)
    unfold allS at *
    rw [List.flatMap_cons, List.length_append, List.length_cons]
    omega
def slotsP (P : List PA) : Int := (P.map fun p => slotsL p.2.2).sum
theorem slotsP_eq (L : List Ac) : slotsP (L.map acP) = slotsA L := by unfold slotsP slotsA; rw [List.map_map]; rfl
theorem slotsA_perm {X Y : List Ac} (h : X.Perm Y) : slotsA X = slotsA Y := by
  induction h with
  | nil => rfl
  | cons x _ ih => simp only [slotsA, List.map_cons, List.sum_cons] at *; rw [ih]
  | swap x y l => simp only [slotsA, List.map_cons, List.sum_cons]; omega
  | trans _ _ h1 h2 => rw [h1, h2]
theorem sorted_ge {L : List PA} (h : L.Pairwise (fun a b => a.1 ≤ b.1)) {i : Nat} {x y : PA} (hx : L[i]? = some x) (hy : L[i + 1]? = some y) : x.1 ≤ y.1 := by
  rw [List.pairwise_iff_getElem] at h
  obtain ⟨h1, rfl⟩ := List.getElem?_eq_some_iff.1 hx
  obtain ⟨h2, rfl⟩ := List.getElem?_eq_some_iff.1 hy
  exact h i (i + 1) h1 h2 (by omega)
set_option maxHeartbeats 4000000 in
set_option maxRecDepth 100000 in
theorem walk (a : Option Addr) (n c : Nat) (S : List Shd) (w : World) (hM : Most w) (hI : ShsIn w a n c S) :
    Calls Tryd.prog 6 (List.toArray [.slice a n c]) w fun e w' => e = .returned (.bool true) ∧ Below w.heap.size w w' := by
  have hs := hI.1
  have hn := hI.2.1
  have hn63 := hs.le
  refine calls_of_exec Sxs.env_ok.keeps Tryd.func6 rfl [(14, (line [0, 1, 2, 3, 4, 5, 6, 7, 8, 9, 10, 11], []))] (schedQ_ok _ _ (by kernel_rfl)) (shsF a n S) hI.facts ?_
  (conv => arg 5; whnf)
  refine loop_rule Sxs.env_ok.keeps [(14, (line [0, 1, 2, 3, 4, 5, 6, 7, 8, 9, 10, 11], []))] (schedQ_ok _ _ (by kernel_rfl)) (fun k : Nat => k ≤ n ∧ (0 < k → n ≤ 8) ∧ ∀ q ∈ S.take k, (fewA q.L && decide ((q.n : Int) ≤ 20)) = true) (fun k => (⟨[], [], shsF a n S⟩, [.v (.slice a n c), .any, .any, .v (.int .i64 (slotsA (allS (S.take k)))), .v (.int .i64 ((allS (S.take k)).length : Nat)), .v (.int .i64 k), .any, .any, .any, .any, .any, .any, .any, .any, .any, .any, .any, .any, .any, .any, .any, .any, .any, .any, .any, .any, .any, .any, .any, .any, .any, .any, .any, .any, .any, .any, .any, .any, .any, .any, .any, .any, .any, .any, .any, .any, .any, .any, .any, .any, .any, .any, .any, .any, .any, .any, .any, .any, .any, .any, .any, .any, .any, .any, .any, .any, .any, .any, .any, .any, .any, .any, .any, .any, .any, .any, .any])) (fun k => n - k) 0 ⟨Nat.zero_le _, by omega, by simp⟩ ⟨by repeat' first | exact trivial | refine ⟨.inl rfl, ?_⟩ | refine ⟨.inr rfl, ?_⟩, ⟨by repeat' first | exact trivial | refine ⟨.inl rfl, ?_⟩ | refine ⟨.inr rfl, ?_⟩, by repeat' first | exact trivial | refine ⟨.inl rfl, ?_⟩ | refine ⟨.inr rfl, ?_⟩, fun _ h => h⟩, rfl⟩ ?_
  rintro k ⟨hk, hk8, hkf⟩
  (conv => arg 5; whnf)
  refine wp_br (fun h1 => ?_) (fun h1 => ?_)
  · have hlt : k < n := by have h3 := of_decide_eq_true (show decide ((k : Int) < (n : Int)) = true from h1); omega
    obtain ⟨q, hq⟩ : ∃ q, S[k]? = some q := ⟨_, List.getElem?_eq_getElem (by omega)⟩
    have hqm : q ∈ S := List.mem_of_getElem? hq
    have FW := fun w' (hM' : AccsIn w' q.a q.n q.c q.L) => fewW q.L 20 q.a q.n q.c w' hM'
    have htk : S.take (k + 1) = S.take k ++ [q] := by rw [List.take_add_one, hq]; rfl
    have hat := allS_take hq
    generalize hfb : (fewA q.L && decide ((q.n : Int) ≤ 20)) = fb at *
    (conv => arg 5; whnf)
    refine wp_must ⟨by omega, by show (k : Int) < (n : Int); omega, hs.some hlt⟩ ?_
    (conv => arg 5; whnf)
    refine readF (sz := 2) (k := k) (f := 0) (.slice q.a q.n q.c) rfl (.head _) hlt (hs.some hlt) (cellsS_at hq 0 _ rfl) rfl ?_
    (conv => arg 5; whnf)
    refine meetc (f := 7) (v := .bool fb) rfl (by kernel_rfl) (fun β ρ w' hM' => FW w' ((hI.mem hM' fun φ hφ => hφ).2.2.2 q hqm).1) ?_
    cases fb with
    | false =>
      (conv => arg 5; whnf)
      refine meetc (f := 8) (v := .bool true) rfl (by kernel_rfl) (fun β ρ w' hM' => shard.live w' (hM.later hM'.below)) ?_
      (conv => arg 5; whnf)
      exact wp_back fun β ρ w' hM' => ⟨rfl, hM'.below⟩
    | true =>
      (conv => arg 5; whnf)
      refine wp_br (fun h2 => ?_) (fun h2 => ?_)
      · skip
        (conv => arg 5; whnf)
        refine meetc (f := 8) (v := .bool true) rfl (by kernel_rfl) (fun β ρ w' hM' => shard.live w' (hM.later hM'.below)) ?_
        (conv => arg 5; whnf)
        exact wp_back fun β ρ w' hM' => ⟨rfl, hM'.below⟩
      · have h8 : n ≤ 8 := by have h3 : ¬ (8 : Int) < (n : Int) := of_decide_eq_false h2; omega
        have hkf2 : ∀ p ∈ S.take (k + 1), (fewA p.L && decide ((p.n : Int) ≤ 20)) = true := fun p hp => by
          rw [htk] at hp
          rcases List.mem_append.1 hp with hp | hp
          · exact hkf p hp
          · obtain rfl := List.mem_singleton.1 hp; exact hfb
        obtain ⟨hqA, hq20⟩ := (hI.2.2.2 q hqm).1.few (by simp only [Bool.and_eq_true] at hfb; exact hfb.1)
        have hqn : q.n ≤ 20 := by simp only [Bool.and_eq_true, decide_eq_true_eq] at hfb; omega
        have hqL : q.L.length = q.n := hqA.2.1.symm
        have b1 := slotsA_bd q.L hq20
        have hl1 : (allS (S.take k)).length ≤ k * 20 := by
          have h6 := allS_len (S.take k) fun p hp => by
            have h5 := hkf p hp
            simp only [Bool.and_eq_true, decide_eq_true_eq] at h5
            have := (hI.2.2.2 p (List.mem_of_mem_take hp)).1.2.1
            omega
          rw [List.length_take] at h6
          have h7 : min k S.length ≤ k := Nat.min_le_left _ _
          have h8 : min k S.length * 20 ≤ k * 20 := Nat.mul_le_mul_right 20 h7
          omega
        have hx20 : ∀ x ∈ allS (S.take k), x.l.length ≤ 20 := fun x hx => by
          obtain ⟨p, hp, hx⟩ := List.mem_flatMap.1 hx
          have h5 := hkf p hp
          simp only [Bool.and_eq_true] at h5
          exact ((hI.2.2.2 p (List.mem_of_mem_take hp)).1.few h5.1).2 x hx
        have b2 := slotsA_bd _ hx20
        have SL := fun w hM hA => shard.slots q.v q.L q.a q.n q.c w hM hA (by omega)
        have e1 : slotsA (allS (S.take (k + 1))) = slotsA (allS (S.take k)) + slotsA q.L := by rw [hat, slotsA_app]
        have e2 : ((allS (S.take (k + 1))).length : Int) = ((allS (S.take k)).length : Int) + (q.n : Int) := by rw [hat, List.length_append, hqL]; push_cast; rfl
        (conv => arg 5; whnf)
        refine wp_must ⟨by omega, by show (k : Int) < (n : Int); omega, hs.some hlt⟩ ?_
        (conv => arg 5; whnf)
        refine readG Sxs.env_ok (vs := q.cs) (sz := 2) (k := k) rfl rfl (.head _) hlt (hs.some hlt) (cellsS_at hq) rfl ?_
        (conv => arg 5; whnf)
        refine meetc (f := 23) (v := .int .i64 (slotsA q.L)) rfl (by kernel_rfl) (fun β ρ w' hM' => SL w' (hM.later hM'.below) (Mem.acs hqA hM' fun φ hφ => .tail _ (List.mem_flatMap.2 ⟨q, hqm, hφ⟩))) ?_
        (conv => arg 5; whnf)
        refine wp_must ⟨by omega, by omega⟩ ?_
        (conv => arg 5; whnf)
        refine wp_must ⟨by omega, by show (k : Int) < (n : Int); omega, hs.some hlt⟩ ?_
        (conv => arg 5; whnf)
        refine readF (sz := 2) (k := k) (f := 0) (.slice q.a q.n q.c) rfl (.head _) hlt (hs.some hlt) (cellsS_at hq 0 _ rfl) rfl ?_
        (conv => arg 5; whnf)
        refine wp_must ⟨by omega, by omega⟩ ?_
        rw [← e1, ← e2]
        (conv => arg 5; whnf)
        refine wp_must ⟨by show -9223372036854775808 ≤ (k : Int) + 1; omega, by show (k : Int) + 1 ≤ 9223372036854775807; omega⟩ ?_
        (conv => arg 5; whnf)
        refine wp_end ⟨k + 1, ⟨hlt, fun _ => h8, hkf2⟩, ⟨by repeat' first | exact trivial | refine ⟨.inl rfl, ?_⟩ | refine ⟨.inr rfl, ?_⟩, ⟨by repeat' first | exact trivial | refine ⟨.inl rfl, ?_⟩ | refine ⟨.inr rfl, ?_⟩, by repeat' first | exact trivial | refine ⟨.inl rfl, ?_⟩ | refine ⟨.inr rfl, ?_⟩, fun _ h => h⟩, rfl⟩, by show n - (k + 1) < n - k; omega⟩
  · have hkn : k = n := by have h3 := of_decide_eq_false (show decide ((k : Int) < (n : Int)) = false from h1); omega
    have e : S.take k = S := List.take_of_length_le (by omega)
    rw [e] at hkf
    rw [e]
    obtain ⟨hS, hfits, hl20, hlen⟩ := shs_few hI hkf
    have hn8 : S.length ≤ 8 := by rcases Nat.eq_zero_or_pos k with h0 | h0; omega; have := hk8 h0; omega
    have hall : (allS S).length ≤ 100000 := by omega
    clear h1 hk hk8 hkf e hkn
    (conv => arg 5; whnf)
    refine meet1F (f := 10) (n := n) (v := fun a1 c1 => .slice a1 n c1) (xs := cellsS S) rfl (by kernel_rfl) (fun β ρ w' hM' => own S a n c w' hs hn (hM'.at_ (.head _)) (by omega)) (fun p c_p h_p f_p => ?_)
    (conv => arg 5; whnf)
    refine meetAs (f := 9) ((srt (fun x : Ac => x.s) (allS S)).map acP) rfl (by kernel_rfl) (fun β ρ w' hM' => join S p n c_p w' ⟨h_p, hn, hM'.at_ (.head _), fun q hq => (Mem.shs hS hM' fun φ hφ => .tail _ hφ).2.2.2 q hq⟩ (by omega) hall hfits) (fun Ls j c_j hLs hf h_j f_j => ?_)
    have hLl : Ls.length = (allS S).length := by have := congrArg List.length hLs; rw [List.length_map, List.length_map, srt_len] at this; exact this
    have hso : (Ls.map acP).Pairwise (fun a b => a.1 ≤ b.1) := by rw [hLs, List.pairwise_map]; exact srt_sorted _ _
    have hsl : slotsA Ls = slotsA (allS S) := by rw [← slotsP_eq, hLs, slotsP_eq]; exact slotsA_perm (srt_perm _ _)
    have hj63 := h_j.le
    have SJ := fun w hM hA => shard.slots 0 Ls j Ls.length c_j w hM hA (by omega)
    rw [hsl] at SJ
    generalize slotsA (allS S) = sa at *
    have hmj : rowF (pt j Ls.length) (cellsA Ls) ∈ acsF j Ls.length Ls ++ (rowF (pt p n) (cellsS S) :: shsF a n S) := List.mem_append_left _ (.head _)
    (conv => arg 5; whnf)
    refine loop_rule Sxs.env_ok.keeps [(14, (line [0, 1, 2, 3, 4, 5, 6, 7, 8, 9, 10, 11], []))] (schedQ_ok _ _ (by kernel_rfl)) (fun k : Nat => 1 ≤ k ∧ k ≤ Ls.length + 1) (fun k => (⟨[], [], acsF j Ls.length Ls ++ (rowF (pt p n) (cellsS S) :: shsF a n S)⟩, [.any, .any, .any, .v (.int .i64 sa), .v (.int .i64 ((allS S).length : Nat)), .any, .v (.slice j Ls.length c_j), .v (.int .i64 k), .any, .any, .any, .any, .any, .any, .any, .any, .any, .any, .any, .any, .any, .any, .any, .any, .any, .any, .any, .any, .any, .any, .any, .any, .any, .any, .any, .any, .any, .any, .any, .any, .any, .any, .any, .any, .any, .any, .any, .any, .any, .any, .any, .any, .any, .any, .any, .any, .any, .any, .any, .any, .any, .any, .any, .any, .any, .any, .any, .any, .any, .any, .any, .any, .any, .any, .any, .any, .any])) (fun k => Ls.length + 1 - k) 1 ⟨Nat.le_refl _, by omega⟩ ⟨by repeat' first | exact trivial | refine ⟨.inl rfl, ?_⟩ | refine ⟨.inr rfl, ?_⟩, ⟨by repeat' first | exact trivial | refine ⟨.inl rfl, ?_⟩ | refine ⟨.inr rfl, ?_⟩, by repeat' first | exact trivial | refine ⟨.inl rfl, ?_⟩ | refine ⟨.inr rfl, ?_⟩, fun _ h => h⟩, rfl⟩ ?_
    rintro k ⟨hk1, hk2⟩
    (conv => arg 5; whnf)
    refine wp_br (fun h1 => ?_) (fun h1 => ?_)
    · have hlt : k < Ls.length := by have h3 := of_decide_eq_true (show decide ((k : Int) < (Ls.length : Int)) = true from h1); omega
      obtain ⟨i, rfl⟩ : ∃ i, k = i + 1 := ⟨k - 1, by omega⟩
      obtain ⟨x, hx⟩ : ∃ x, Ls[i]? = some x := ⟨_, List.getElem?_eq_getElem (by omega)⟩
      obtain ⟨y, hy⟩ : ∃ y, Ls[i + 1]? = some y := ⟨_, List.getElem?_eq_getElem (by omega)⟩
      have hge := sorted_ge hso (x := acP x) (y := acP y) (i := i) (by rw [List.getElem?_map, hx]; rfl) (by rw [List.getElem?_map, hy]; rfl)
      have hge : x.s ≤ y.s := hge
      (conv => arg 5; whnf)
      refine wp_must ⟨by show -9223372036854775808 ≤ ((i + 1 : Nat) : Int) - 1; omega, by show ((i + 1 : Nat) : Int) - 1 ≤ 9223372036854775807; omega⟩ ?_
      (conv => arg 5; whnf)
      refine wp_must ⟨by show 0 ≤ ((i + 1 : Nat) : Int) - 1; omega, by show ((i + 1 : Nat) : Int) - 1 < (Ls.length : Int); omega, h_j.some (show i < Ls.length by omega)⟩ ?_
      (conv => arg 5; whnf)
      refine readF (sz := 3) (k := i) (f := 0) (.int .i64 x.s) rfl hmj (show i < Ls.length by omega) (h_j.some (show i < Ls.length by omega)) (cellsA_at hx 0 _ rfl) (by rw [show (((i + 1 : Nat) : Int) - 1).toNat = i by omega]) ?_
      (conv => arg 5; whnf)
      refine wp_must ⟨by omega, by show ((i + 1 : Nat) : Int) < (Ls.length : Int); omega, h_j.some hlt⟩ ?_
      (conv => arg 5; whnf)
      refine readF (sz := 3) (k := i + 1) (f := 0) (.int .i64 y.s) rfl hmj hlt (h_j.some hlt) (cellsA_at hy 0 _ rfl) rfl ?_
      (conv => arg 5; whnf)
      refine wp_br (fun h2 => by have h3 : y.s < x.s := of_decide_eq_true h2; omega) (fun h2 => ?_)
      (conv => arg 5; whnf)
      refine wp_must ⟨by show -9223372036854775808 ≤ ((i + 1 : Nat) : Int) + 1; omega, by show ((i + 1 : Nat) : Int) + 1 ≤ 9223372036854775807; omega⟩ ?_
      (conv => arg 5; whnf)
      refine wp_end ⟨i + 1 + 1, ⟨by omega, by omega⟩, ⟨by repeat' first | exact trivial | refine ⟨.inl rfl, ?_⟩ | refine ⟨.inr rfl, ?_⟩, ⟨by repeat' first | exact trivial | refine ⟨.inl rfl, ?_⟩ | refine ⟨.inr rfl, ?_⟩, by repeat' first | exact trivial | refine ⟨.inl rfl, ?_⟩ | refine ⟨.inr rfl, ?_⟩, fun _ h => h⟩, rfl⟩, by show Ls.length + 1 - (i + 1 + 1) < Ls.length + 1 - (i + 1); omega⟩
    · skip
      (conv => arg 5; whnf)
      refine wp_g1 (fun h2 => ?_) (fun h2 => by have h3 : ((Ls.length : Int) == ((allS S).length : Int)) = false := h2; rw [hLl] at h3; simp at h3)
      (conv => arg 5; whnf)
      refine meetc (f := 23) (v := .int .i64 sa) rfl (by kernel_rfl) (fun β ρ w' hM' => SJ w' (hM.later hM'.below) (acs_of hM' h_j rfl hf fun φ hφ => List.mem_append_left _ hφ)) ?_
      (conv => arg 5; whnf)
      refine wp_g1 (fun h2 => ?_) (fun h2 => by have h3 : (sa == sa) = false := h2; simp at h3)
      (conv => arg 5; whnf)
      refine meetc (f := 8) (v := .bool true) rfl (by kernel_rfl) (fun β ρ w' hM' => shard.live w' (hM.later hM'.below)) ?_
      (conv => arg 5; whnf)
      exact wp_back fun β ρ w' hM' => ⟨rfl, hM'.below⟩
end Go.Proofs.YtjhopkamfeadjaaDoor.shardSlots
namespace Go.Proofs.YtjhopkamfeadjaaDoor.shardSlots
open Go.ChangeShapes Go.WideShapes Go.ChangeAt Go.RowKit
open Go.ChangeMaps (open_string shut_string)
set_option linter.unusedVariables false

theorem own : ownKnob Tryd.prog.godebug = none := by kernel_rfl
theorem laidOut : laidOutB Tryd.prog = true := by kernel_rfl

/-- A world in which the list of bounds lies as it was laid. -/
noncomputable def laidWorld (os : Os) : World :=
  let w0 := World.holding Tryd.prog os ⟨#[], #[], []⟩
  { w0 with heap := w0.heap.modify 0 fun
      | .cells _ t frozen => .cells #[.int .i64 255, .int .i64 4294967295, .int .i64 1099511627776, .int .i64 1099511627776, .int .i64 1073741824] t frozen
      | o => o }
theorem laid_met (os : Os) (args : Array Value) : laidMet Tryd.prog Rows.shardSlotsRow.laid ((laidWorld os).forCall (fun _ _ => 0) ⟨#[], args, []⟩).memory :=
  laidMet_of_run (ps := [.cell 0 0, .cell 0 1, .cell 0 2, .cell 0 3, .cell 0 4]) 8 (by kernel_rfl) (by kernel_rfl) (by kernel_rfl)

set_option maxRecDepth 100000 in
theorem lifted (os : Os) (started : os.Started) (H : Type) (enc : TypeId × Value → H) :
    ReturnsInHanded {} Tryd.checked os 6 .any (fun w args => (Rows.shardSlotsSpec.pre enc Tryd.prog Tryd.f6 Rows.shardSlotsRow.domain false w args ∧ laidMet Tryd.prog Rows.shardSlotsRow.laid w) ∧ sizedMet enc Tryd.prog Tryd.f6 (OpenSpec.ofChange Rows.shardSlotsSpec) false w args) (Rows.shardSlotsSpec.post enc Tryd.prog Tryd.f6 false true false false) := by
  refine returnsInHanded_of_change_and (C := Tryd.checked) (X := fun w _ => laidMet Tryd.prog Rows.shardSlotsRow.laid w) (fun _ _ _ hh h => h.of_heap hh) own started (by kernel_rfl) Tryd.func6
    (ChangeSpec.witness_at (enc := enc) (C := Tryd.checked) (os := os) (X := fun w _ => laidMet Tryd.prog Rows.shardSlotsRow.laid w) false (laidWorld os) #[.slice none 0 0] 8 rfl (by kernel_rfl) (by kernel_rfl) (by kernel_rfl) (by kernel_rfl) (by kernel_rfl) (laid_met os _)) ?_
  intro W base args ds gs before hval0 hW hcnd _ hL _
  have hval : ∀ (j : Nat) t v, Tryd.f6.params[j]? = some t → args[j]? = some v → Value.okWide Tryd.prog W .any base t v := hval0
  have hW' := hW
  obtain ⟨p, q, hA0, hV, rfl, hfz, hnd⟩ := hW
  have hA : DataW.TrodAll enc Tryd.prog W 0 (fun _ => true) true Tryd.f6.params.toList args.toList ds p := hA0
  rw [Tryd.params6] at hA hval
  obtain ⟨v0, vs0, d0, ds0, p0, q0, hargs, rfl, rfl, h0, r0⟩ := trodAll_cons hA
  obtain ⟨rfl, rfl, rfl⟩ := trodAll_nil r0
  obtain rfl : args = #[v0] := by cases args; simp_all
  obtain ⟨rfl, rfl⟩ := trodVars_none hV
  have k0 := h0
  have lt0 : ∀ x ∈ p0, x.block < W.heap.size := by obtain ⟨m, hm⟩ := k0; exact DataW.trod_lt m _ _ _ hm
  obtain ⟨a0, n0, c0, l0, rfl, f0⟩ := shard.open_shards (hval 0 22 v0 rfl rfl) h0
  clear hA0 hval0
  have hM : txn.Most W := txn.most_of_laid hL
  refine (walk a0 n0 c0 l0 W hM f0).mono fun e W' ⟨he, bel⟩ => ?_
  subst he
  exact ⟨_, rfl, _, _, _, [], _, [], hW', trodAll_mk1 (shut_bool Tryd.underlying4 _), (trodAll_cons_mk (Below.trod laidOut (by kernel_rfl) (of_decide_eq_true (by kernel_rfl)) k0 bel lt0) trodAll_mk0), rfl, bel.frame _, fun h => by cases h⟩

theorem over : Rows.ShardSlotsSaid :=
  OpenClaim.holds_of_wide 6 Tryd.f6 rfl rfl rfl rfl rfl rfl rfl ⟨rfl, rfl, rfl, rfl, rfl⟩ rfl rfl rfl rfl rfl (by kernel_rfl) Tryd.func6 (by kernel_rfl)
    (of_decide_eq_true (by kernel_rfl)) (by unfold Func.isWrapper; first | (rw [if_pos (by decide +kernel)]; kernel_rfl) | (rw [if_neg (by decide +kernel)]; exact ⟨rfl, rfl⟩))
    (fun os started H enc _ => lifted os started H enc)

/-- THE STATEMENT. -/
theorem proved : Rows.ShardSlotsCardSaid :=
  Claim7.holds_tied_plain_at .later [] [.data] true (true, "232ae9b689898a3150144e226dbef7ee7ee4e521089a7afbbdb41a0f3fa648a2") false
    over (fun _ h => by cases h) (by kernel_rfl) (fun _ h => by cases h) shardSlots_row_tie rfl ⟨rfl, rfl⟩ (by kernel_rfl) rfl
    (fun f fn hf hfn => by
      obtain rfl : f = 6 := (Option.some.inj ((show Tryd.prog.funcNamed "hopper/hopperlaw11.ShardSlots" = some 6 by kernel_rfl).symm.trans hf)).symm
      obtain rfl : fn = Tryd.f6 := (Option.some.inj (Tryd.func6.symm.trans hfn)).symm
      exact ⟨by kernel_rfl, fun j t ht => by
        rw [Tryd.params6] at ht
        match j, ht with
        | 0, ht =>
          obtain rfl : t = 22 := by simpa using ht.symm
          exact (show Tryd.prog.wantsStandIn 22 = false by kernel_rfl)
        | j + 1, ht => simp at ht⟩)
    (by kernel_rfl)
#print axioms proved
end Go.Proofs.YtjhopkamfeadjaaDoor.shardSlots
