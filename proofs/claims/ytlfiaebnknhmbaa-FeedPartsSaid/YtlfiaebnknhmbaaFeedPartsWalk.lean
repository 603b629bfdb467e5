/- The walk of hopperlaw14.FeedParts. -/
import Derived.Test.YtlfiaebnknhmbaaFeedM
namespace Go.Proofs.Ytlfiaebnknhmbaa.feedParts
open Go.RowKit Sx feed
set_option linter.unusedVariables false
set_option linter.unusedSimpArgs false
set_option maxHeartbeats 4000000 in
set_option maxRecDepth 100000 in
theorem walk (a : Option Addr) (n c : Nat) (l : List Ev) (b : Option Addr) (m d : Nat) (k : List Ev) (x : Option Addr) (y z : Nat) (es : List Ev) (cut : Int) (w : World) (h : IsEvs w a n c l ∧ IsEvs w b m d k) (h2 : IsEvs w x y z es) (h3 : Fits cut) : Calls Try.prog 7 (List.toArray [.agg #[.slice a n c, .slice b m d], .slice x y z, .int .i64 cut]) w fun e w' =>  e = .returned (.bool true) ∧ Below w.heap.size w w' := by
  obtain ⟨⟨hs, hn, hrow, hft⟩, hs2, hm, hrow2, hft2⟩ := h
  obtain ⟨hs3, hy, hrow3, hft3⟩ := h2
  have hdl : ∀ x ∈ l, x.d.size ≤ maxLen := fun x hx => (hft x hx).2.2.2.2.2.2.1
  have hml : ∀ x ∈ l, Fits x.m := fun x hx => (hft x hx).2.2.2.2.2.2.2
  have hdk : ∀ x ∈ k, x.d.size ≤ maxLen := fun x hx => (hft2 x hx).2.2.2.2.2.2.1
  have hmk : ∀ x ∈ k, Fits x.m := fun x hx => (hft2 x hx).2.2.2.2.2.2.2
  have hds : ∀ x ∈ es, x.d.size ≤ maxLen := fun x hx => (hft3 x hx).2.2.2.2.2.2.1
  have hms : ∀ x ∈ es, Fits x.m := fun x hx => (hft3 x hx).2.2.2.2.2.2.2
  have hy63 := hs3.le
  refine calls_of_exec env_ok.keeps Try.func7 rfl [] (schedQ_ok _ _ (by kernel_rfl)) [rowF (pt a n) (cellsE l), rowF (pt b m) (cellsE k), rowF (pt x y) (cellsE es)] (at3 hrow hrow2 hrow3) ?_
  (conv => arg 5; whnf)
  refine wp_must ⟨by decide, by decide⟩ ?_
  (conv => arg 5; whnf)
  refine wp_must ⟨by decide, by decide⟩ ?_
  (conv => arg 5; whnf)
  refine meetc (f := 9) (v := .bool (fewB l && decide ((n : Int) ≤ 40))) rfl (by kernel_rfl) (fun β ρ w' hM' => rfew 40 a n c l w' hs hn (hM'.at_ (.head _)) hdl) ?_
  (conv => arg 5; whnf)
  refine wp_g0 (fun g1 => ?_) (fun g1 => ?_)
  · (conv => arg 5; whnf)
    refine meetc (f := 9) (v := .bool (fewB k && decide ((m : Int) ≤ 40))) rfl (by kernel_rfl) (fun β ρ w' hM' => rfew 40 b m d k w' hs2 hm (hM'.at_ (.tail _ (.head _))) hdk) ?_
    (conv => arg 5; whnf)
    refine wp_g0 (fun g2 => ?_) (fun g2 => ?_)
    · (conv => arg 5; whnf)
      refine meetc (f := 9) (v := .bool (fewB es && decide ((y : Int) ≤ 40))) rfl (by kernel_rfl) (fun β ρ w' hM' => rfew 40 x y z es w' hs3 hy (hM'.at_ (.tail _ (.tail _ (.head _)))) hds) ?_
      (conv => arg 5; whnf)
      refine wp_g0 (fun g3 => ?_) (fun g3 => ?_)
      · (conv => arg 5; whnf)
        refine wp_g0 (fun g4 => ?_) (fun g4 => ?_)
        · (conv => arg 5; whnf)
          refine wp_br (fun g5 => ?_) (fun g5 => ?_)
          · (conv => arg 5; whnf)
            refine meetc (f := 10) (v := .bool true) rfl (by kernel_rfl) (fun β ρ w' hM' => live w') ?_
            (conv => arg 5; whnf)
            exact wp_back fun β ρ w' hM' => ⟨rfl, hM'.below⟩
          · have hl : l.length ≤ 40 := by simp at g1; omega
            have hk : k.length ≤ 40 := by simp at g2; omega
            have hes : es.length ≤ 40 := by simp at g3; omega
            obtain ⟨j, rfl⟩ : ∃ j : Nat, cut = j := ⟨cut.toNat, by simp at g4; omega⟩
            have hj : j ≤ y := by simp at g5; omega
            clear g1 g2 g3 g4 g5
            have hyz := hs3.1
            have hsb := sl_begin hs3 j hj
            have hse := sl_end hs3 j hj
            have htk : j = (es.take j).length := by rw [List.length_take]; omega
            have hdr : y - j = (es.drop j).length := by rw [List.length_drop]; omega
            have hC := covers_split l (l := es.take j) k (es.drop j)
            rw [List.take_append_drop] at hC
            have hca : cellsE (l ++ k) = [] ++ cellsE l ++ cellsE k := by rw [cellsE_append, List.nil_append]
            have hmb : ∀ z ∈ l ++ k, Fits z.m := fun z hz => (List.mem_append.1 hz).elim (hml z) (hmk z)
            have hlg : coversV [lag (y : Int)] es = decide ((y : Int) > 0) := by rw [hy, covers_lag]; simp
            have hfl : ∀ z ∈ [lag (y : Int)], Fits z.m := fun z hz => by simp only [List.mem_singleton] at hz; subst hz; show Fits (y : Int); unfold Fits; omega
            (conv => arg 5; whnf)
            refine rowsE hn (.head _) ?_
            (conv => arg 5; whnf)
            refine wp_must ⟨by show 0 + n ≤ maxLen; unfold maxLen; omega, by show (0 + n) * 72 ≤ _; omega, fun h => ⟨(hs.2.2 h).1, (hs.2.2 h).2⟩⟩ ?_
            (conv => arg 5; whnf)
            refine rowsE hm (.tail _ (.head _)) ?_
            (conv => arg 5; whnf)
            refine wp_must ⟨by show 0 + n + m ≤ maxLen; unfold maxLen; omega, by show (0 + n + m) * 72 ≤ _; omega, fun h => ⟨(hs2.2.2 h).1, (hs2.2.2 h).2⟩⟩ ?_
            (conv => arg 5; whnf)
            refine wp_prim (.slice x j z) (fun w => slice_to x y z j w (by omega)) ?_
            (conv => arg 5; whnf)
            refine meetc (f := 21) (v := .bool (coversV l (es.take j))) rfl (by kernel_rfl) (fun β ρ w' hM' => covers a n c l x j z (es.take j) w' hs hn (hM'.at_ (.head _)) hsb htk (at_begin (hM'.at_ (.tail _ (.tail _ (.head _)))) j hj) hml) ?_
            (conv => arg 5; whnf)
            refine wp_g1 (fun c1 => ?_) (fun c1 => ?_)
            · (conv => arg 5; whnf)
              refine wp_prim (.slice (shift x z j) (y - j) (z - j)) (fun w => slice_from x y z j w hj hyz) ?_
              (conv => arg 5; whnf)
              refine meetc (f := 21) (v := .bool (coversV k (es.drop j))) rfl (by kernel_rfl) (fun β ρ w' hM' => covers b m d k (shift x z j) (y - j) (z - j) (es.drop j) w' hs2 hm (hM'.at_ (.tail _ (.head _))) hse hdr (at_end (hM'.at_ (.tail _ (.tail _ (.head _)))) j hj hyz) hmk) ?_
              (conv => arg 5; whnf)
              refine wp_g1 (fun c2 => ?_) (fun c2 => ?_)
              · have hcc : coversV (l ++ k) es = true := by rw [hC c1]; exact c2
                (conv => arg 5; whnf)
                refine wp_share fun u c_u h_u f_u => ?_
                (conv => arg 5; whnf)
                refine meetc (f := 21) (v := .bool (true)) rfl (by kernel_rfl) (fun β ρ w' hM' => coversL u (0 + n + m) c_u (l ++ k) x y z es w' h_u (by rw [List.length_append]; omega) hs3 hy hmb true hcc (by rw [hca]; exact (hM'.at_ (.head _)).pt _) (hM'.at_ (.tail _ (.tail _ (.tail _ (.head _)))))) ?_
                (conv => arg 5; whnf)
                refine wp_share fun v c_v h_v f_v => ?_
                (conv => arg 5; whnf)
                refine meetc (f := 21) (v := .bool (decide ((y : Int) > 0))) rfl (by kernel_rfl) (fun β ρ w' hM' => coversL v 1 c_v [lag (y : Int)] x y z es w' h_v rfl hs3 hy hfl _ hlg ((hM'.at_ (.head _)).pt _) (hM'.at_ (.tail _ (.tail _ (.tail _ (.tail _ (.head _))))))) ?_
                (conv => arg 5; whnf)
                refine wp_prim (.bool true) (fun w => by by_cases h : (y : Int) > 0 <;> simp [h, eqGuard, go_sem]) ?_
                (conv => arg 5; whnf)
                refine meetc (f := 10) (v := .bool true) rfl (by kernel_rfl) (fun β ρ w' hM' => live w') ?_
                (conv => arg 5; whnf)
                exact wp_back fun β ρ w' hM' => ⟨rfl, hM'.below⟩
              · (conv => arg 5; whnf)
                refine wp_share fun v c_v h_v f_v => ?_
                (conv => arg 5; whnf)
                refine meetc (f := 21) (v := .bool (decide ((y : Int) > 0))) rfl (by kernel_rfl) (fun β ρ w' hM' => coversL v 1 c_v [lag (y : Int)] x y z es w' h_v rfl hs3 hy hfl _ hlg ((hM'.at_ (.head _)).pt _) (hM'.at_ (.tail _ (.tail _ (.tail _ (.head _)))))) ?_
                (conv => arg 5; whnf)
                refine wp_prim (.bool true) (fun w => by by_cases h : (y : Int) > 0 <;> simp [h, eqGuard, go_sem]) ?_
                (conv => arg 5; whnf)
                refine meetc (f := 10) (v := .bool true) rfl (by kernel_rfl) (fun β ρ w' hM' => live w') ?_
                (conv => arg 5; whnf)
                exact wp_back fun β ρ w' hM' => ⟨rfl, hM'.below⟩
            · (conv => arg 5; whnf)
              refine wp_share fun v c_v h_v f_v => ?_
              (conv => arg 5; whnf)
              refine meetc (f := 21) (v := .bool (decide ((y : Int) > 0))) rfl (by kernel_rfl) (fun β ρ w' hM' => coversL v 1 c_v [lag (y : Int)] x y z es w' h_v rfl hs3 hy hfl _ hlg ((hM'.at_ (.head _)).pt _) (hM'.at_ (.tail _ (.tail _ (.tail _ (.head _)))))) ?_
              (conv => arg 5; whnf)
              refine wp_prim (.bool true) (fun w => by by_cases h : (y : Int) > 0 <;> simp [h, eqGuard, go_sem]) ?_
              (conv => arg 5; whnf)
              refine meetc (f := 10) (v := .bool true) rfl (by kernel_rfl) (fun β ρ w' hM' => live w') ?_
              (conv => arg 5; whnf)
              exact wp_back fun β ρ w' hM' => ⟨rfl, hM'.below⟩
        · (conv => arg 5; whnf)
          refine meetc (f := 10) (v := .bool true) rfl (by kernel_rfl) (fun β ρ w' hM' => live w') ?_
          (conv => arg 5; whnf)
          exact wp_back fun β ρ w' hM' => ⟨rfl, hM'.below⟩
      · (conv => arg 5; whnf)
        refine meetc (f := 10) (v := .bool true) rfl (by kernel_rfl) (fun β ρ w' hM' => live w') ?_
        (conv => arg 5; whnf)
        exact wp_back fun β ρ w' hM' => ⟨rfl, hM'.below⟩
    · (conv => arg 5; whnf)
      refine meetc (f := 10) (v := .bool true) rfl (by kernel_rfl) (fun β ρ w' hM' => live w') ?_
      (conv => arg 5; whnf)
      exact wp_back fun β ρ w' hM' => ⟨rfl, hM'.below⟩
  · (conv => arg 5; whnf)
    refine meetc (f := 10) (v := .bool true) rfl (by kernel_rfl) (fun β ρ w' hM' => live w') ?_
    (conv => arg 5; whnf)
    exact wp_back fun β ρ w' hM' => ⟨rfl, hM'.below⟩
end Go.Proofs.Ytlfiaebnknhmbaa.feedParts
