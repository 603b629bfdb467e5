/- The walk of hopperlaw14.FeedAtOnce. -/
import Derived.Test.YtlfiaebnknhmbaaFeedM
namespace Go.Proofs.Ytlfiaebnknhmbaa.feedAtOnce
open Go.RowKit Sx feed
set_option linter.unusedVariables false
set_option linter.unusedSimpArgs false
set_option maxHeartbeats 4000000 in
set_option maxRecDepth 100000 in
theorem walk (r q : Int) (a : Option Addr) (n c : Nat) (l : List Ev) (b : Option Addr) (m d : Nat) (es : List Ev) (cut : Int) (w : World) (h : IsEvs w a n c l ∧ Fits r ∧ Fits q) (h2 : IsEvs w b m d es) (h3 : Fits cut) : Calls Try.prog 5 (List.toArray [fd r a n c q, .slice b m d, .int .i64 cut]) w fun e w' =>  e = .returned (.bool true) ∧ Below w.heap.size w w' := by
  obtain ⟨⟨hs, hn, hrow, hft⟩, hfr, hfq⟩ := h
  obtain ⟨hs2, hm, hrow2, hft2⟩ := h2
  have hdl : ∀ x ∈ l, x.d.size ≤ maxLen := fun x hx => (hft x hx).2.2.2.2.2.2.1
  have hml : ∀ x ∈ l, Fits x.m := fun x hx => (hft x hx).2.2.2.2.2.2.2
  have hds : ∀ x ∈ es, x.d.size ≤ maxLen := fun x hx => (hft2 x hx).2.2.2.2.2.2.1
  have hms : ∀ x ∈ es, Fits x.m := fun x hx => (hft2 x hx).2.2.2.2.2.2.2
  have hm63 := hs2.le
  refine calls_of_exec (env_ok.keeps.how []) Try.func5 rfl [(4, (.one 0 (.one 1 (.one 2 (.one 3 (.one 5 (.one 6 (.one 7 (.fork 4 (.fork 8 (.one 9 (.one 10 (.done))) 9 (.one 8 (.one 10 (.done)))) 9 (.one 4 (.one 8 (.one 10 (.done))))))))))), []))] (schedQ_ok _ _ (by kernel_rfl)) [rowF (pt a n) (cellsE l), rowF (pt b m) (cellsE es)] (at2 hrow hrow2) ?_
  (conv => arg 5; whnf)
  refine meetc (f := 9) (v := .bool (fewB l && decide ((n : Int) ≤ 60))) rfl (by kernel_rfl) (fun β ρ w' hM' => rfew 60 a n c l w' hs hn (hM'.at_ (.head _)) hdl) ?_
  (conv => arg 5; whnf)
  refine wp_g0 (fun g1 => ?_) (fun g1 => ?_)
  · (conv => arg 5; whnf)
    refine meetc (f := 9) (v := .bool (fewB es && decide ((m : Int) ≤ 60))) rfl (by kernel_rfl) (fun β ρ w' hM' => rfew 60 b m d es w' hs2 hm (hM'.at_ (.tail _ (.head _))) hds) ?_
    (conv => arg 5; whnf)
    refine wp_g0 (fun g2 => ?_) (fun g2 => ?_)
    · (conv => arg 5; whnf)
      refine wp_g0 (fun g3 => ?_) (fun g3 => ?_)
      · (conv => arg 5; whnf)
        refine wp_br (fun g4 => ?_) (fun g4 => ?_)
        · (conv => arg 5; whnf)
          refine meetc (f := 10) (v := .bool true) rfl (by kernel_rfl) (fun β ρ w' hM' => live w') ?_
          (conv => arg 5; whnf)
          exact wp_back fun β ρ w' hM' => ⟨rfl, hM'.below⟩
        · have hl : l.length ≤ 60 := by simp at g1; omega
          have hes : es.length ≤ 60 := by simp at g2; omega
          obtain ⟨j, rfl⟩ : ∃ j : Nat, cut = j := ⟨cut.toNat, by simp at g3; omega⟩
          have hj : j ≤ m := by simp at g4; omega
          clear g1 g2 g3 g4
          have hmd := hs2.1
          obtain ⟨ys, lo, hTV⟩ : ∃ ys lo, tellV r (l, q) es = (ys, lo) := ⟨_, _, rfl⟩
          obtain ⟨zs, lz, hZ⟩ : ∃ zs lz, tellV r (l, q) (es.take j) = (zs, lz) := ⟨_, _, rfl⟩
          have hY : tellV r (zs, lz) (es.drop j) = (ys, lo) := by rw [← hZ, ← tellV_app, List.take_append_drop]; exact hTV
          have hge := tellV_ge r es (l, q)
          rw [hTV] at hge
          have hge : l.length ≤ ys.length := hge
          have hzl : zs.length ≤ 120 := by
            have := tellV_len (r := r) (l := es.take j) (q := (l, q))
            rw [hZ, List.length_take] at this
            have : zs.length ≤ l.length + min j es.length := this
            omega
          have hylz : ys.length ≤ 120 := by
            have := tellV_len (r := r) (l := es) (q := (l, q))
            rw [hTV] at this
            have : ys.length ≤ l.length + es.length := this
            omega
          have hfz : Fits lz := by
            have := tellV_fits (r := r) (l := es.take j) (q := (l, q)) hfq
            rwa [hZ] at this
          have hsb := sl_begin hs2 j hj
          have hse := sl_end hs2 j hj
          have htk : j = (es.take j).length := by rw [List.length_take]; omega
          have hdr : m - j = (es.drop j).length := by rw [List.length_drop]; omega
          (conv => arg 5; whnf)
          refine meet1F (f := 19) (n := ys.length) (v := fun a1 c1 => fd r a1 ys.length c1 lo) (xs := cellsE ys) rfl (by kernel_rfl) (fun β ρ w' hM' => tellL r q a n c l b m d es w' hs hn hs2 hm (by omega) (by omega) hfq ys.length ys lo rfl hTV (hM'.at_ (.head _)) (hM'.at_ (.tail _ (.head _)))) (fun t c_t h_t f_t => ?_)
          (conv => arg 5; whnf)
          refine wp_prim (.slice b j d) (fun w => slice_to b m d j w (by omega)) ?_
          (conv => arg 5; whnf)
          refine wp_prim (.slice (shift b d j) (m - j) (d - j)) (fun w => slice_from b m d j w hj hmd) ?_
          (conv => arg 5; whnf)
          refine wp_both ?_ ?_
          rotate_left
          · (conv => arg 5; whnf)
            refine meet1F (f := 19) (n := zs.length) (v := fun a1 c1 => fd r a1 zs.length c1 lz) (xs := cellsE zs) rfl (by kernel_rfl) (fun β ρ w' hM' => tellL r q a n c l b j d (es.take j) w' hs hn hsb htk (by omega) (by rw [← htk]; omega) hfq zs.length zs lz rfl hZ (hM'.at_ (.tail _ (.head _))) (at_begin (hM'.at_ (.tail _ (.tail _ (.head _)))) j hj)) (fun z c_z h_z f_z => ?_)
            (conv => arg 5; whnf)
            refine meet1F (f := 19) (n := ys.length) (v := fun a1 c1 => fd r a1 ys.length c1 lo) (xs := cellsE ys) rfl (by kernel_rfl) (fun β ρ w' hM' => tellL r lz z zs.length c_z zs (shift b d j) (m - j) (d - j) (es.drop j) w' h_z rfl hse hdr (by omega) (by rw [← hdr]; omega) hfz ys.length ys lo rfl hY (hM'.at_ (.head _)) (at_end (hM'.at_ (.tail _ (.tail _ (.tail _ (.head _))))) j hj hmd)) (fun y c_y h_y f_y => ?_)
            (conv => arg 5; whnf)
            refine meetc (f := 17) (v := .bool true) rfl (by kernel_rfl) (fun β ρ w' hM' => same t ys.length c_t ys y c_y w' h_t rfl (hM'.at_ (.tail _ (.tail _ (.head _)))) h_y (hM'.at_ (.head _)) r lo) ?_
            (conv => arg 5; whnf)
            refine wp_g1 (fun _ => ?_) (fun h => by simp at h; omega)
            (conv => arg 5; whnf)
            refine meetc (f := 10) (v := .bool true) rfl (by kernel_rfl) (fun β ρ w' hM' => live w') ?_
            (conv => arg 5; whnf)
            exact wp_back fun β ρ w' hM' => ⟨rfl, hM'.below⟩
          (conv => arg 5; whnf)
          refine meet1F (f := 19) (n := zs.length) (v := fun a1 c1 => fd r a1 zs.length c1 lz) (xs := cellsE zs) rfl (by kernel_rfl) (fun β ρ w' hM' => tellL r q a n c l b j d (es.take j) w' hs hn hsb htk (by omega) (by rw [← htk]; omega) hfq zs.length zs lz rfl hZ (hM'.at_ (.tail _ (.head _))) (at_begin (hM'.at_ (.tail _ (.tail _ (.head _)))) j hj)) (fun z c_z h_z f_z => ?_)
          (conv => arg 5; whnf)
          refine wp_both ?_ ?_
          rotate_left
          · (conv => arg 5; whnf)
            refine meet1F (f := 19) (n := ys.length) (v := fun a1 c1 => fd r a1 ys.length c1 lo) (xs := cellsE ys) rfl (by kernel_rfl) (fun β ρ w' hM' => tellL r lz z zs.length c_z zs (shift b d j) (m - j) (d - j) (es.drop j) w' h_z rfl hse hdr (by omega) (by rw [← hdr]; omega) hfz ys.length ys lo rfl hY (hM'.at_ (.head _)) (at_end (hM'.at_ (.tail _ (.tail _ (.tail _ (.head _))))) j hj hmd)) (fun y c_y h_y f_y => ?_)
            (conv => arg 5; whnf)
            refine meetc (f := 17) (v := .bool true) rfl (by kernel_rfl) (fun β ρ w' hM' => same t ys.length c_t ys y c_y w' h_t rfl (hM'.at_ (.tail _ (.tail _ (.head _)))) h_y (hM'.at_ (.head _)) r lo) ?_
            (conv => arg 5; whnf)
            refine wp_g1 (fun _ => ?_) (fun h => by simp at h; omega)
            (conv => arg 5; whnf)
            refine meetc (f := 10) (v := .bool true) rfl (by kernel_rfl) (fun β ρ w' hM' => live w') ?_
            (conv => arg 5; whnf)
            exact wp_back fun β ρ w' hM' => ⟨rfl, hM'.below⟩
          (conv => arg 5; whnf)
          refine meet1F (f := 19) (n := ys.length) (v := fun a1 c1 => fd r a1 ys.length c1 lo) (xs := cellsE ys) rfl (by kernel_rfl) (fun β ρ w' hM' => tellL r lz z zs.length c_z zs (shift b d j) (m - j) (d - j) (es.drop j) w' h_z rfl hse hdr (by omega) (by rw [← hdr]; omega) hfz ys.length ys lo rfl hY (hM'.at_ (.head _)) (at_end (hM'.at_ (.tail _ (.tail _ (.tail _ (.head _))))) j hj hmd)) (fun y c_y h_y f_y => ?_)
          (conv => arg 5; whnf)
          refine meetc (f := 17) (v := .bool true) rfl (by kernel_rfl) (fun β ρ w' hM' => same t ys.length c_t ys y c_y w' h_t rfl (hM'.at_ (.tail _ (.tail _ (.head _)))) h_y (hM'.at_ (.head _)) r lo) ?_
          (conv => arg 5; whnf)
          refine wp_g1 (fun _ => ?_) (fun h => by simp at h; omega)
          (conv => arg 5; whnf)
          refine meetc (f := 10) (v := .bool true) rfl (by kernel_rfl) (fun β ρ w' hM' => live w') ?_
          (conv => arg 5; whnf)
          exact wp_back fun β ρ w' hM' => ⟨rfl, hM'.below⟩
      · (conv => arg 5; whnf)
        refine meetc (f := 10) (v := .bool true) rfl (by kernel_rfl) (fun β ρ w' hM' => live w') ?_
        (conv => arg 5; whnf)
        exact wp_back fun β ρ w' hM' => ⟨rfl, hM'.below⟩
    · (conv => arg 5; whnf)
      refine meetc (f := 10) (v := .bool true) rfl (by kernel_rfl) (fun β ρ w' hM' => live w') ?_
      (conv => arg 5; whnf)
      exact wp_back fun β ρ w' hM' => ⟨rfl, hM'.below⟩
  · (conv => arg 5; whnf)
    refine meetc (f := 10) (v := .bool true) rfl (by kernel_rfl) (fun β ρ w' hM' => live w') ?_
    (conv => arg 5; whnf)
    exact wp_back fun β ρ w' hM' => ⟨rfl, hM'.below⟩
end Go.Proofs.Ytlfiaebnknhmbaa.feedAtOnce
