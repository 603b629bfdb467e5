/- The walk of hopperlaw05.QueueBases. -/
import Derived.Test.YtjejjgoagjkfdaaDoorQueueLive
import Derived.Test.YtjejjgoagjkfdaaDoorQueueOpen
import Derived.Test.YtjejjgoagjkfdaaDoorQueueY
namespace Go.Proofs.YtjejjgoagjkfdaaDoor.queueBases
open Go.RowKit Sx txn queue
set_option linter.unusedVariables false
set_option linter.unusedSimpArgs false
section
variable {P : Program} {W : World} {G : Option Nat} {Q : Ending → World → Prop} {ds : List Deferred}
/-- A row that came in, appended. -/
theorem rowsP {l : List Tx} {a : Option Addr} {n : Nat} {m : M} {K : List Value → Tree} (hn : n = l.length) (hm : rowF (pt a n) (cellsL l) ∈ m.facts) (h : (K (cellsL l)).wpD P W G Q ds) : (Tree.rows a n 6 m K).wpD P W G Q ds := by
  refine ⟨cellsL l, by rw [cellsL_length, hn], cellsL_one l, fun β ρ w' hM' ad had j u hu => ?_, h⟩
  subst had
  have h1 := hM'.at_ hm
  rw [pt_pos (k := 0) (by have := cellsL_pos hu; omega)] at h1
  exact h1.cell hu
end
theorem rtxsN (l : List Tx) (a : Option Addr) (n c : Nat) (a2 : Option Addr) (n2 c2 : Nat) (w : World) (hs : Sl a n c) (hn : n = l.length) (hn2 : n2 = l.length) (hrow : At w (pt a n) (cellsL l)) (hs2 : Sl a2 n2 c2) (hrow2 : At w (pt a2 n2) (cellsL l)) :
    Calls Tryd.prog 22 (List.toArray [.slice a n c, .slice a2 n2 c2]) w fun e w' => e = .returned (.bool true) ∧ Below w.heap.size w w' := by
  obtain rfl : n2 = n := by omega
  exact rtxs l a n2 c a2 c2 w hs hn hrow hs2 hrow2
set_option maxHeartbeats 4000000 in
set_option maxRecDepth 100000 in
theorem walk (s b : Int) (a : Option Addr) (n c : Nat) (l : List Tx) (x y : Int) (w : World) (hM : Most w) (h : Sl a n c ∧ n = l.length ∧ At w (pt a n) (cellsL l) ∧ (∀ x ∈ l, Tx.fits x) ∧ Fits s ∧ Fits b) (hx : Fits x) (hy : Fits y) : Calls Tryd.prog 8 (List.toArray [.agg #[.int .i64 s, .int .i64 b, .slice a n c], .int .i64 x, .int .i64 y]) w fun e w' =>  e = .returned (.bool true) ∧ Below w.heap.size w w' := by
  obtain ⟨hs, hn, hrow, hft, hfs, hfb⟩ := h
  have hd : ∀ x ∈ l, x.d.size ≤ maxLen := fun x hx => (hft x hx).2.2.2.2.2
  have C1 := fun w hM hr => check_ s b 16 l a n c w hM hs hn hr
  refine calls_of_exec env_ok.keeps Tryd.func8 rfl [] (schedQ_ok _ _ (by kernel_rfl)) [rowF (pt a n) (cellsL l)] (at1 hrow) ?_
  (conv => arg 5; whnf)
  refine meetc (f := 16) (v := .bool (fewB l && decide ((n : Int) ≤ 30))) rfl (by kernel_rfl) (fun β ρ w' hM' => rsmallA s b l a n c w' hs hn (hM'.at_ (.head _))) ?_
  (conv => arg 5; whnf)
  refine wp_g0 (fun hsm => ?_) (fun hsm => ?_)
  · have hl : l.length ≤ 30 := by simp at hsm; omega
    (conv => arg 5; whnf)
    refine meetc (f := 20) (v := .bool (checkV s b 16 l)) rfl (by kernel_rfl) (fun β ρ w' hM' => C1 w' (hM.later hM'.below) (hM'.at_ (.head _))) ?_
    (conv => arg 5; whnf)
    refine wp_g0 (fun hc => ?_) (fun hc => ?_)
    · (conv => arg 5; whnf)
      refine wp_br (fun h => ?_) (fun hxy => ?_)
      · (conv => arg 5; whnf)
        refine meetc (f := 17) (v := .bool true) rfl (by kernel_rfl) (fun β ρ w' hM' => live w' (hM.later hM'.below)) ?_
        (conv => arg 5; whnf)
        exact wp_back fun β ρ w' hM' => ⟨rfl, hM'.below⟩
      · have hc : checkV s b 16 l = true := by simpa using hc
        have hxy : x ≤ y := by simpa using hxy
        have c5 := ((checkV_iff s b 16 l).1 hc).2.2.2.2
        by_cases he : advV b x = 0
        · by_cases hf : advV x y = 0
          · have hbx := (advV_zero he).2
            have hg : advV b y = 0 := by
              unfold advV at hf ⊢
              split at hf
              · cases hf
              · rename_i h1
                rw [if_neg h1, if_neg (by omega)]
            have L1 : (above x l).length ≤ l.length := List.length_filter_le _ _
            have L2 : (below x l).length ≤ l.length := List.length_filter_le _ _
            have A1 := fun w hr => advance_ok s b l a n c x w hs hn hr (by omega) he
            have A2 := fun p c w hs hr => advance_ok s x (above x l) p _ c y w hs rfl hr (by omega) hf
            have A3 := fun w hr => advance_ok s b l a n c y w hs hn hr (by omega) hg
            rw [above_above hxy] at A2
            have B1 : below x l ++ below y (above x l) = below y l := rises_below_below hxy c5
            have B2 : below y l ++ above y l = l := rises_split c5
            have L3 := congrArg List.length B1
            have L4 := congrArg List.length B2
            rw [List.length_append] at L3 L4
            generalize below x l = gx at A1 B1 L2 L3
            generalize below y (above x l) = gm at A2 B1 L3
            generalize above x l = ax at A1 A2 L1
            generalize below y l = gy at A3 B1 B2 L3 L4
            generalize above y l = ay at A2 A3 B2 L4
            (conv => arg 5; whnf)
            refine meet2' (f := 30) (n := ax.length) (n2 := gx.length) (v := fun a1 c1 a2 c2 => .tuple #[acc s x a1 ax.length c1, .slice a2 gx.length c2, .int .i64 0]) (xs := cellsL ax) (ys := cellsL gx) rfl (by kernel_rfl) (fun β ρ w' hM' => A1 w' (hM'.at_ (.head _))) (fun p1 c_p1 g1 c_g1 h_p1 h_g1 => ?_)
            (conv => arg 5; whnf)
            refine meet2' (f := 30) (n := ay.length) (n2 := gm.length) (v := fun a1 c1 a2 c2 => .tuple #[acc s y a1 ay.length c1, .slice a2 gm.length c2, .int .i64 0]) (xs := cellsL ay) (ys := cellsL gm) rfl (by kernel_rfl) (fun β ρ w' hM' => A2 p1 c_p1 w' h_p1 (hM'.at_ (.head _))) (fun p2 c_p2 g2 c_g2 h_p2 h_g2 => ?_)
            (conv => arg 5; whnf)
            refine meet2' (f := 30) (n := ay.length) (n2 := gy.length) (v := fun a1 c1 a2 c2 => .tuple #[acc s y a1 ay.length c1, .slice a2 gy.length c2, .int .i64 0]) (xs := cellsL ay) (ys := cellsL gy) rfl (by kernel_rfl) (fun β ρ w' hM' => A3 w' (hM'.at_ (.tail _ (.tail _ (.tail _ (.tail _ (.head _))))))) (fun p3 c_p3 g3 c_g3 h_p3 h_g3 => ?_)
            (conv => arg 5; whnf)
            refine rowsP (l := gx) rfl (.tail _ (.tail _ (.tail _ (.tail _ (.tail _ (.head _)))))) ?_
            (conv => arg 5; whnf)
            refine wp_must ⟨by show 0 + gx.length ≤ maxLen; unfold maxLen; omega, by show (0 + gx.length) * 56 ≤ 140737488355328; omega, h_g1.2.2⟩ ?_
            (conv => arg 5; whnf)
            refine rowsP (l := gm) rfl (.tail _ (.tail _ (.tail _ (.head _)))) ?_
            (conv => arg 5; whnf)
            refine wp_must ⟨by show 0 + gx.length + gm.length ≤ maxLen; unfold maxLen; omega, by show (0 + gx.length + gm.length) * 56 ≤ 140737488355328; omega, h_g2.2.2⟩ ?_
            (conv => arg 5; whnf)
            refine rowsP (l := gy) rfl (.tail _ (.head _)) ?_
            (conv => arg 5; whnf)
            refine wp_must ⟨by show 0 + gy.length ≤ maxLen; unfold maxLen; omega, by show (0 + gy.length) * 56 ≤ 140737488355328; omega, h_g3.2.2⟩ ?_
            (conv => arg 5; whnf)
            refine rowsP (l := ay) rfl (.head _) ?_
            (conv => arg 5; whnf)
            refine wp_must ⟨by show 0 + gy.length + ay.length ≤ maxLen; unfold maxLen; omega, by show (0 + gy.length + ay.length) * 56 ≤ 140737488355328; omega, h_p3.2.2⟩ ?_
            (conv => arg 5; whnf)
            refine meetc (f := 32) (v := .bool true) rfl (by kernel_rfl) (fun β ρ w' hM' => rsame s y ay p2 ay.length c_p2 p3 c_p3 w' h_p2 rfl (hM'.at_ (.tail _ (.tail _ (.head _)))) h_p3 (hM'.at_ (.head _))) ?_
            (conv => arg 5; whnf)
            refine wp_share fun u c_u h_u f_u => ?_
            (conv => arg 5; whnf)
            refine meetc (f := 22) (v := .bool true) rfl (by kernel_rfl) (fun β ρ w' hM' => rtxsN gy u (0 + gx.length + gm.length) c_u g3 gy.length c_g3 w' h_u (by omega) rfl (by have h := at_whole (0 + gx.length + gm.length) (hM'.at_ (.head _)); rw [← B1, cellsL_append]; exact h) h_g3 (hM'.at_ (.tail _ (.tail _ (.head _))))) ?_
            (conv => arg 5; whnf)
            refine wp_share fun v c_v h_v f_v => ?_
            (conv => arg 5; whnf)
            refine meetc (f := 22) (v := .bool true) rfl (by kernel_rfl) (fun β ρ w' hM' => rtxsN l v (0 + gy.length + ay.length) c_v a n c w' h_v (by omega) hn (by have h := at_whole (0 + gy.length + ay.length) (hM'.at_ (.head _)); rw [← B2, cellsL_append]; exact h) hs (hM'.at_ (.tail _ (.tail _ (.tail _ (.tail _ (.tail _ (.tail _ (.tail _ (.tail _ (.head _))))))))))) ?_
            (conv => arg 5; whnf)
            refine meetc (f := 17) (v := .bool true) rfl (by kernel_rfl) (fun β ρ w' hM' => live w' (hM.later hM'.below)) ?_
            (conv => arg 5; whnf)
            exact wp_back fun β ρ w' hM' => ⟨rfl, hM'.below⟩
          · have hg : advV b y ≠ 0 := by
              have hbx := (advV_zero he).2
              unfold advV at hf ⊢
              split at hf
              · rename_i h1
                rw [if_pos h1]; decide
              · rename_i h1
                rw [if_neg (by omega)] at hf
                exact absurd rfl hf
            have L1 : (above x l).length ≤ l.length := List.length_filter_le _ _
            have A1 := fun w hr => advance_ok s b l a n c x w hs hn hr (by omega) he
            have A2 := fun p c w hs hr => advance_no s x (above x l) p _ c y w hs rfl hr (by omega) hf
            have A3 := fun w hr => advance_no s b l a n c y w hs hn hr (by omega) hg
            generalize below x l = gx at A1
            generalize above x l = ax at A1 A2 L1
            generalize advV x y = ef at A2 hf
            generalize advV b y = eg at A3 hg
            have hne : (ef != 0) = true := by simpa using hf
            (conv => arg 5; whnf)
            refine meet2' (f := 30) (n := ax.length) (n2 := gx.length) (v := fun a1 c1 a2 c2 => .tuple #[acc s x a1 ax.length c1, .slice a2 gx.length c2, .int .i64 0]) (xs := cellsL ax) (ys := cellsL gx) rfl (by kernel_rfl) (fun β ρ w' hM' => A1 w' (hM'.at_ (.head _))) (fun p1 c_p1 g1 c_g1 h_p1 h_g1 => ?_)
            (conv => arg 5; whnf)
            refine meet1' (f := 30) (n := ax.length) (v := fun a1 c1 => .tuple #[acc s x a1 ax.length c1, .slice none 0 0, .int .i64 ef]) (xs := cellsL ax) rfl (by kernel_rfl) (fun β ρ w' hM' => A2 p1 c_p1 w' h_p1 (hM'.at_ (.head _))) (fun p2 c_p2 h_p2 => ?_)
            (conv => arg 5; whnf)
            refine meet1' (f := 30) (n := n) (v := fun a1 c1 => .tuple #[acc s b a1 n c1, .slice none 0 0, .int .i64 eg]) (xs := cellsL l) rfl (by kernel_rfl) (fun β ρ w' hM' => A3 w' (hM'.at_ (.tail _ (.tail _ (.tail _ (.head _)))))) (fun p3 c_p3 h_p3 => ?_)
            (conv => arg 5; whnf)
            refine wp_br (fun _ => ?_) (fun h => by rw [hne] at h; cases h)
            (conv => arg 5; whnf)
            refine meetc (f := 17) (v := .bool true) rfl (by kernel_rfl) (fun β ρ w' hM' => live w' (hM.later hM'.below)) ?_
            (conv => arg 5; whnf)
            exact wp_back fun β ρ w' hM' => ⟨rfl, hM'.below⟩
        · have A1 := fun w hr => advance_no s b l a n c x w hs hn hr (by omega) he
          by_cases hf : advV b y = 0
          · have A2 := fun p c w hs hr => advance_ok s b l p n c y w hs hn hr (by omega) hf
            have A3 := fun w hr => advance_ok s b l a n c y w hs hn hr (by omega) hf
            generalize advV b x = ee at A1 he
            have hne : (ee != 0) = true := by simpa using he
            have heq : (ee == 0) = false := by simpa using he
            generalize below y l = gy at A2 A3
            generalize above y l = ay at A2 A3
            (conv => arg 5; whnf)
            refine meet1' (f := 30) (n := n) (v := fun a1 c1 => .tuple #[acc s b a1 n c1, .slice none 0 0, .int .i64 ee]) (xs := cellsL l) rfl (by kernel_rfl) (fun β ρ w' hM' => A1 w' (hM'.at_ (.head _))) (fun p1 c_p1 h_p1 => ?_)
            (conv => arg 5; whnf)
            refine meet2' (f := 30) (n := ay.length) (n2 := gy.length) (v := fun a1 c1 a2 c2 => .tuple #[acc s y a1 ay.length c1, .slice a2 gy.length c2, .int .i64 0]) (xs := cellsL ay) (ys := cellsL gy) rfl (by kernel_rfl) (fun β ρ w' hM' => A2 p1 c_p1 w' h_p1 (hM'.at_ (.head _))) (fun p2 c_p2 g2 c_g2 h_p2 h_g2 => ?_)
            (conv => arg 5; whnf)
            refine meet2' (f := 30) (n := ay.length) (n2 := gy.length) (v := fun a1 c1 a2 c2 => .tuple #[acc s y a1 ay.length c1, .slice a2 gy.length c2, .int .i64 0]) (xs := cellsL ay) (ys := cellsL gy) rfl (by kernel_rfl) (fun β ρ w' hM' => A3 w' (hM'.at_ (.tail _ (.tail _ (.tail _ (.head _)))))) (fun p3 c_p3 g3 c_g3 h_p3 h_g3 => ?_)
            (conv => arg 5; whnf)
            refine wp_g0 (fun h => by rw [hne] at h; cases h) (fun _ => ?_)
            (conv => arg 5; whnf)
            refine wp_g0 (fun _ => ?_) (fun h => by rw [heq] at h; cases h)
            (conv => arg 5; whnf)
            refine meetc (f := 32) (v := .bool true) rfl (by kernel_rfl) (fun β ρ w' hM' => rsame s b l p1 n c_p1 a c w' h_p1 hn (hM'.at_ (.tail _ (.tail _ (.tail _ (.tail _ (.head _)))))) hs (hM'.at_ (.tail _ (.tail _ (.tail _ (.tail _ (.tail _ (.head _)))))))) ?_
            (conv => arg 5; whnf)
            refine meetc (f := 17) (v := .bool true) rfl (by kernel_rfl) (fun β ρ w' hM' => live w' (hM.later hM'.below)) ?_
            (conv => arg 5; whnf)
            exact wp_back fun β ρ w' hM' => ⟨rfl, hM'.below⟩
          · have A2 := fun p c w hs hr => advance_no s b l p n c y w hs hn hr (by omega) hf
            have A3 := fun w hr => advance_no s b l a n c y w hs hn hr (by omega) hf
            generalize advV b x = ee at A1 he
            have hne : (ee != 0) = true := by simpa using he
            have heq : (ee == 0) = false := by simpa using he
            generalize advV b y = ef at A2 A3 hf
            (conv => arg 5; whnf)
            refine meet1' (f := 30) (n := n) (v := fun a1 c1 => .tuple #[acc s b a1 n c1, .slice none 0 0, .int .i64 ee]) (xs := cellsL l) rfl (by kernel_rfl) (fun β ρ w' hM' => A1 w' (hM'.at_ (.head _))) (fun p1 c_p1 h_p1 => ?_)
            (conv => arg 5; whnf)
            refine meet1' (f := 30) (n := n) (v := fun a1 c1 => .tuple #[acc s b a1 n c1, .slice none 0 0, .int .i64 ef]) (xs := cellsL l) rfl (by kernel_rfl) (fun β ρ w' hM' => A2 p1 c_p1 w' h_p1 (hM'.at_ (.head _))) (fun p2 c_p2 h_p2 => ?_)
            (conv => arg 5; whnf)
            refine meet1' (f := 30) (n := n) (v := fun a1 c1 => .tuple #[acc s b a1 n c1, .slice none 0 0, .int .i64 ef]) (xs := cellsL l) rfl (by kernel_rfl) (fun β ρ w' hM' => A3 w' (hM'.at_ (.tail _ (.tail _ (.head _))))) (fun p3 c_p3 h_p3 => ?_)
            (conv => arg 5; whnf)
            refine wp_g0 (fun h => by rw [hne] at h; cases h) (fun _ => ?_)
            (conv => arg 5; whnf)
            refine wp_g0 (fun _ => ?_) (fun h => by rw [heq] at h; cases h)
            (conv => arg 5; whnf)
            refine meetc (f := 32) (v := .bool true) rfl (by kernel_rfl) (fun β ρ w' hM' => rsame s b l p1 n c_p1 a c w' h_p1 hn (hM'.at_ (.tail _ (.tail _ (.head _)))) hs (hM'.at_ (.tail _ (.tail _ (.tail _ (.head _)))))) ?_
            (conv => arg 5; whnf)
            refine meetc (f := 17) (v := .bool true) rfl (by kernel_rfl) (fun β ρ w' hM' => live w' (hM.later hM'.below)) ?_
            (conv => arg 5; whnf)
            exact wp_back fun β ρ w' hM' => ⟨rfl, hM'.below⟩
    · (conv => arg 5; whnf)
      refine meetc (f := 17) (v := .bool true) rfl (by kernel_rfl) (fun β ρ w' hM' => live w' (hM.later hM'.below)) ?_
      (conv => arg 5; whnf)
      exact wp_back fun β ρ w' hM' => ⟨rfl, hM'.below⟩
  · (conv => arg 5; whnf)
    refine meetc (f := 17) (v := .bool true) rfl (by kernel_rfl) (fun β ρ w' hM' => live w' (hM.later hM'.below)) ?_
    (conv => arg 5; whnf)
    exact wp_back fun β ρ w' hM' => ⟨rfl, hM'.below⟩
end Go.Proofs.YtjejjgoagjkfdaaDoor.queueBases
