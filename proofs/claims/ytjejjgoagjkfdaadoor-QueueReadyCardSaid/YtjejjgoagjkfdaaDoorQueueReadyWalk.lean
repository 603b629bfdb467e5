/- The walk of hopperlaw05.QueueReady. -/
import Derived.Test.YtjejjgoagjkfdaaDoorQueueLive
import Derived.Test.YtjejjgoagjkfdaaDoorQueueOpen
import Derived.Test.YtjejjgoagjkfdaaDoorQueueY
namespace Go.Proofs.YtjejjgoagjkfdaaDoor.queueReady
open Go.RowKit Sx txn queue
set_option linter.unusedVariables false
set_option linter.unusedSimpArgs false
set_option maxHeartbeats 4000000 in
set_option maxRecDepth 100000 in
theorem walk (s b : Int) (a : Option Addr) (n c : Nat) (l : List Tx) (per : Int) (w : World) (hM : Most w) (h : Sl a n c ∧ n = l.length ∧ At w (pt a n) (cellsL l) ∧ (∀ x ∈ l, Tx.fits x) ∧ Fits s ∧ Fits b) (hp : Fits per) : Calls Tryd.prog 6 (List.toArray [.agg #[.int .i64 s, .int .i64 b, .slice a n c], .int .i64 per]) w fun e w' =>  e = .returned (.bool true) ∧ Below w.heap.size w w' := by
  obtain ⟨hs, hn, hrow, hft, hfs, hfb⟩ := h
  have hd : ∀ x ∈ l, x.d.size ≤ maxLen := fun x hx => (hft x hx).2.2.2.2.2
  have C1 := fun w hM hr => check_ s b per l a n c w hM hs hn hr
  refine calls_of_exec env_ok.keeps Tryd.func6 rfl [(9, (line [0, 1, 2, 3, 4, 5, 6, 7, 8, 9, 10, 11, 12, 13, 14, 15, 16, 17, 18, 19, 20, 21], [])), (12, (line [0, 1, 2, 3, 4, 5, 6, 7, 8, 9, 10, 11, 12, 13, 14, 15, 16, 17, 18, 19, 20, 21, 22, 23, 24, 25, 26, 27, 28], []))] (schedQ_ok _ _ (by kernel_rfl)) [rowF (pt a n) (cellsL l)] (at1 hrow) ?_
  (conv => arg 5; whnf)
  refine meetc (f := 16) (v := .bool (fewB l && decide ((n : Int) ≤ 30))) rfl (by kernel_rfl) (fun β ρ w' hM' => rsmallA s b l a n c w' hs hn (hM'.at_ (.head _))) ?_
  (conv => arg 5; whnf)
  refine wp_g0 (fun hsm => ?_) (fun hsm => ?_)
  · have hl : l.length ≤ 30 := by simp at hsm; omega
    (conv => arg 5; whnf)
    refine meetc (f := 20) (v := .bool (checkV s b per l)) rfl (by kernel_rfl) (fun β ρ w' hM' => C1 w' (hM.later hM'.below) (hM'.at_ (.head _))) ?_
    (conv => arg 5; whnf)
    refine wp_br (fun hc => ?_) (fun hc => ?_)
    · (conv => arg 5; whnf)
      refine meetc (f := 17) (v := .bool true) rfl (by kernel_rfl) (fun β ρ w' hM' => live w' (hM.later hM'.below)) ?_
      (conv => arg 5; whnf)
      exact wp_back fun β ρ w' hM' => ⟨rfl, hM'.below⟩
    · have hc : checkV s b per l = true := by simpa using hc
      obtain ⟨c1, c2, c3, c4, c5⟩ := (checkV_iff s b per l).1 hc
      obtain ⟨j, e, hj, f1, f2, f3⟩ := ready_facts c5 b 0 c2.1 (by omega)
      simp only [Nat.zero_add] at e f1 f2 f3
      have R1 := fun w hr => ready s b l a n c w hs hn hr (by omega)
      have er : readyV b l = l.take j := by unfold readyV; rw [e]
      have elen : (l.take j).length = j := by rw [List.length_take]; omega
      simp only [er, elen] at R1
      have F1 := fun w hr => find s b l a n c (b + j) w hs hn hr
      rw [findV_none f2] at F1
      (conv => arg 5; whnf)
      refine meet1' (f := 23) (n := j) (v := fun a1 c1 => .slice a1 j c1) (xs := cellsL (l.take j)) rfl (by kernel_rfl) (fun β ρ w' hM' => R1 w' (hM'.at_ (.head _))) (fun r c_r h_r => ?_)
      (conv => arg 5; whnf)
      refine wp_br (fun h => by simp at h; omega) (fun _ => ?_)
      (conv => arg 5; whnf)
      refine loop_rule env_ok.keeps [(9, (line [0, 1, 2, 3, 4, 5, 6, 7, 8, 9, 10, 11, 12, 13, 14, 15, 16, 17, 18, 19, 20, 21], [])), (12, (line [0, 1, 2, 3, 4, 5, 6, 7, 8, 9, 10, 11, 12, 13, 14, 15, 16, 17, 18, 19, 20, 21, 22, 23, 24, 25, 26, 27, 28], []))] (schedQ_ok _ _ (by kernel_rfl)) (fun k : Nat => k ≤ j) (fun k => (⟨[some ([.v (.int .i64 s), .v (.int .i64 b), .v (.slice a n c)], 24)], [], [rowF (pt r j) (cellsL (l.take j)), rowF (pt a n) (cellsL l)]⟩, sl 93 [(2, .p 0 0), (4, .v (.bool false)), (5, .v (.slice r j c_r)), (6, .v (.int .i64 k))])) (fun k => j - k) 0 (Nat.zero_le _) ⟨by repeat' first | exact trivial | refine ⟨.inl rfl, ?_⟩ | refine ⟨.inr rfl, ?_⟩, ⟨by repeat' first | exact trivial | refine ⟨.inl rfl, ?_⟩ | refine ⟨.inr rfl, ?_⟩, by repeat' first | exact trivial | refine ⟨.inl rfl, ?_⟩ | refine ⟨.inr rfl, ?_⟩, fun _ h => h⟩, rfl⟩ ?_
      intro k hk
      (conv => arg 5; whnf)
      refine wp_br (fun h1 => ?_) (fun h1 => ?_)
      · have hlt : k < j := by simp at h1; omega
        have hx : l[k]? = some l[k] := List.getElem?_eq_getElem (by omega)
        have hx2 : (l.take j)[k]? = some l[k] := by rw [List.getElem?_take, if_pos hlt]; exact hx
        have hnk := f1 k l[k] hlt hx
        generalize l[k] = x at hx hx2 hnk
        (conv => arg 5; whnf)
        refine wp_must ⟨by omega, by omega, h_r.some hlt⟩ ?_
        (conv => arg 5; whnf)
        refine readX (l := l.take j) (k := k) rfl (.head _) hlt (h_r.some hlt) hx2 rfl ?_
        (conv => arg 5; whnf)
        refine wp_must ⟨by omega, by omega, hs.some (show k < n by omega)⟩ ?_
        (conv => arg 5; whnf)
        refine readX (l := l) (k := k) rfl (.tail _ (.head _)) (show k < n by omega) (hs.some (show k < n by omega)) hx rfl ?_
        (conv => arg 5; whnf)
        refine wp_prim (.bool false) (fun w => neq_same _ _ x w) ?_
        (conv => arg 5; whnf)
        refine wp_must ⟨by omega, by omega, h_r.some hlt⟩ ?_
        (conv => arg 5; whnf)
        refine read1 (l := l.take j) (k := k) (f := 1) (x := x) (.int .i64 x.n) rfl (.head _) hlt (h_r.some hlt) hx2 rfl rfl ?_
        (conv => arg 5; whnf)
        refine wp_must ⟨by omega, by omega⟩ ?_
        (conv => arg 5; whnf)
        refine wp_br (fun h => by simp at h; omega) (fun _ => ?_)
        (conv => arg 5; whnf)
        refine wp_must ⟨by omega, by omega⟩ ?_
        (conv => arg 5; whnf)
        refine wp_end ⟨k + 1, hlt, ⟨by repeat' first | exact trivial | refine ⟨.inl rfl, ?_⟩ | refine ⟨.inr rfl, ?_⟩, ⟨by repeat' first | exact trivial | refine ⟨.inl rfl, ?_⟩ | refine ⟨.inr rfl, ?_⟩, by repeat' first | exact trivial | refine ⟨.inl rfl, ?_⟩ | refine ⟨.inr rfl, ?_⟩, fun _ h => h⟩, rfl⟩, by show j - (k + 1) < j - k; omega⟩
      · by_cases hjn : j = n
        · subst hjn
          (conv => arg 5; whnf)
          refine wp_must ⟨by omega, by omega⟩ ?_
          (conv => arg 5; whnf)
          refine meetc (f := 18) (v := .tuple #[tx0.val, .bool false]) rfl (by kernel_rfl) (fun β ρ w' hM' => F1 w' (hM'.at_ (.tail _ (.head _)))) ?_
          (conv => arg 5; whnf)
          refine wp_g0 (fun h => by simp at h) (fun _ => ?_)
          (conv => arg 5; whnf)
          refine meetc (f := 17) (v := .bool true) rfl (by kernel_rfl) (fun β ρ w' hM' => live w' (hM.later hM'.below)) ?_
          (conv => arg 5; whnf)
          exact wp_back fun β ρ w' hM' => ⟨rfl, hM'.below⟩
        · have hjlt : j < n := by omega
          have hx : l[j]? = some l[j] := List.getElem?_eq_getElem (by omega)
          have hgt := f3 _ hx
          generalize l[j] = x at hx hgt
          have hgt : decide (x.n > b + j) = true := by simpa using hgt
          (conv => arg 5; whnf)
          refine wp_must ⟨by omega, by omega⟩ ?_
          (conv => arg 5; whnf)
          refine meetc (f := 18) (v := .tuple #[tx0.val, .bool false]) rfl (by kernel_rfl) (fun β ρ w' hM' => F1 w' (hM'.at_ (.tail _ (.head _)))) ?_
          (conv => arg 5; whnf)
          refine wp_g0 (fun _ => ?_) (fun h => by simp at h; omega)
          (conv => arg 5; whnf)
          refine wp_must ⟨by omega, by omega, hs.some hjlt⟩ ?_
          (conv => arg 5; whnf)
          refine read1 (l := l) (k := j) (f := 1) (x := x) (.int .i64 x.n) rfl (.tail _ (.head _)) hjlt (hs.some hjlt) hx rfl rfl ?_
          (conv => arg 5; whnf)
          refine wp_must ⟨by omega, by omega⟩ ?_
          (conv => arg 5; whnf)
          refine wp_g1 (fun _ => ?_) (fun h => by rw [hgt] at h; cases h)
          (conv => arg 5; whnf)
          refine meetc (f := 17) (v := .bool true) rfl (by kernel_rfl) (fun β ρ w' hM' => live w' (hM.later hM'.below)) ?_
          (conv => arg 5; whnf)
          exact wp_back fun β ρ w' hM' => ⟨rfl, hM'.below⟩
  · (conv => arg 5; whnf)
    refine meetc (f := 17) (v := .bool true) rfl (by kernel_rfl) (fun β ρ w' hM' => live w' (hM.later hM'.below)) ?_
    (conv => arg 5; whnf)
    exact wp_back fun β ρ w' hM' => ⟨rfl, hM'.below⟩
end Go.Proofs.YtjejjgoagjkfdaaDoor.queueReady
