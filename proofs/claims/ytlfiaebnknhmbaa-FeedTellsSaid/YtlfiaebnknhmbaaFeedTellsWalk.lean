/- The walk of hopperlaw14.FeedTells. -/
import Derived.Test.YtlfiaebnknhmbaaFeedOpen
namespace Go.Proofs.Ytlfiaebnknhmbaa.feedTells
open Go.RowKit Sx feed
set_option linter.unusedVariables false
set_option linter.unusedSimpArgs false
set_option maxHeartbeats 4000000 in
set_option maxRecDepth 100000 in
theorem walk (r q : Int) (a : Option Addr) (n c : Nat) (l : List Ev) (b : Option Addr) (m d : Nat) (es : List Ev) (room : Int) (w : World) (h : IsEvs w a n c l ∧ Fits r ∧ Fits q) (h2 : IsEvs w b m d es) (h3 : Fits room) : Calls Try.prog 3 (List.toArray [fd r a n c q, .slice b m d, .int .i64 room]) w fun e w' =>  e = .returned (.bool true) ∧ Below w.heap.size w w' := by
  obtain ⟨⟨hs, hn, hrow, hft⟩, hfr, hfq⟩ := h
  obtain ⟨hs2, hm, hrow2, hft2⟩ := h2
  have hdl : ∀ x ∈ l, x.d.size ≤ maxLen := fun x hx => (hft x hx).2.2.2.2.2.2.1
  have hml : ∀ x ∈ l, Fits x.m := fun x hx => (hft x hx).2.2.2.2.2.2.2
  have hds : ∀ x ∈ es, x.d.size ≤ maxLen := fun x hx => (hft2 x hx).2.2.2.2.2.2.1
  have hms : ∀ x ∈ es, Fits x.m := fun x hx => (hft2 x hx).2.2.2.2.2.2.2
  refine calls_of_exec (env_ok.keeps.how []) Try.func3 rfl [(12, (line [0, 1, 3, 4, 2, 5, 6, 7, 8, 9, 10, 12, 13, 14, 11, 15, 16, 17, 18, 19, 20, 21], []))] (schedQ_ok _ _ (by kernel_rfl)) [rowF (pt a n) (cellsE l), rowF (pt b m) (cellsE es)] (at2 hrow hrow2) ?_
  (conv => arg 5; whnf)
  refine meetc (f := 9) (v := .bool (fewB l && decide ((n : Int) ≤ 60))) rfl (by kernel_rfl) (fun β ρ w' hM' => rfew 60 a n c l w' hs hn (hM'.at_ (.head _)) hdl) ?_
  (conv => arg 5; whnf)
  refine wp_g0 (fun g1 => ?_) (fun g1 => ?_)
  · (conv => arg 5; whnf)
    refine meetc (f := 9) (v := .bool (fewB es && decide ((m : Int) ≤ 60))) rfl (by kernel_rfl) (fun β ρ w' hM' => rfew 60 b m d es w' hs2 hm (hM'.at_ (.tail _ (.head _))) hds) ?_
    (conv => arg 5; whnf)
    refine wp_br (fun g2 => ?_) (fun g2 => ?_)
    · (conv => arg 5; whnf)
      refine meetc (f := 10) (v := .bool true) rfl (by kernel_rfl) (fun β ρ w' hM' => live w') ?_
      (conv => arg 5; whnf)
      exact wp_back fun β ρ w' hM' => ⟨rfl, hM'.below⟩
    · have hl : l.length ≤ 60 := by simp at g1; omega
      have hes : es.length ≤ 60 := by simp at g2; omega
      clear g1 g2
      obtain ⟨a', c', ⟨hs', hat⟩, hT⟩ := rread_any r q a n c l hs hn
      have htl : l.tail.length = n - 1 := by rw [List.length_tail]; omega
      rw [htl] at hs' hat
      obtain ⟨r0, e0, hN⟩ : ∃ r0 e0, newV room = (r0, e0) := ⟨_, _, rfl⟩
      obtain ⟨ys, lo, hTV⟩ : ∃ ys lo, tellV r (l, q) es = (ys, lo) := ⟨_, _, rfl⟩
      have R1 := fun (w : World) hr => readL r q a n c l w hs hn (by omega) (n - 1) l.tail (lostV l q) (errV l q) (hdV l q) rfl rfl rfl rfl rfl hr
      have A1 := fun (w : World) hr => allL r q a n c l w hs hn (by omega) (allV l q).length (allV l q) (endV q) rfl rfl rfl hr
      have A2 := fun (w : World) hr => rallL r q a n c l w hs hn (by omega) (allV l q).length (allV l q) (endV q) rfl rfl rfl hr
      have T1 := fun (w : World) hr hr2 => tellL r q a n c l b m d es w hs hn hs2 hm (by omega) (by omega) hfq ys.length ys lo rfl hTV hr hr2
      have T2 := fun (w : World) hr hr2 => rtell r q a n c l b m d es w hs hn hr hs2 hm hr2 (by omega) (by omega) hfq
      have C1 := fun (w : World) hr hr2 => coversL a n c l b m d es w hs hn hs2 hm hml (coversV l es) rfl hr hr2
      have C2 := fun (w : World) hr hr2 => rcoversL a n c l b m d es w hs hn hs2 hm hml (coversV l es) rfl hr hr2
      rw [hTV] at T2
      generalize lostV l q = lq at *
      generalize errV l q = er at *
      generalize hdV l q = x at *
      generalize allV l q = al at *
      generalize endV q = eq at *
      generalize l.tail = lt at *
      generalize coversV l es = cv at *
      (conv => arg 5; whnf)
      refine meetc (f := 11) (v := .tuple #[fd r0 none 0 0 0, .int .i64 e0]) rfl (by kernel_rfl) (fun β ρ w' hM' => newL room r0 e0 w' hN) ?_
      (conv => arg 5; whnf)
      refine meetc (f := 12) (v := .tuple #[fd r0 none 0 0 0, .int .i64 e0]) rfl (by kernel_rfl) (fun β ρ w' hM' => rnewL room r0 e0 w' hN) ?_
      (conv => arg 5; whnf)
      refine meet1F (f := 13) (n := (n - 1)) (v := fun a1 c1 => .tuple #[fd r a1 (n - 1) c1 lq, x.val, .int .i64 er]) (xs := cellsE lt) rfl (by kernel_rfl) (fun β ρ w' hM' => R1 w' (hM'.at_ (.head _))) (fun p c_p h_p f_p => ?_)
      (conv => arg 5; whnf)
      refine meetc (f := 14) (v := .tuple #[fd r a' (n - 1) c' lq, x.val, .int .i64 er]) rfl (by kernel_rfl) (fun β ρ w' hM' => hT w' (hM'.at_ (.tail _ (.head _)))) ?_
      (conv => arg 5; whnf)
      refine meet2' (f := 15) (n := 0) (n2 := al.length) (v := fun a1 c1 a2 c2 => .tuple #[fd r a1 0 c1 eq, .slice a2 al.length c2]) (xs := cellsE []) (ys := cellsE al) rfl (by kernel_rfl) (fun β ρ w' hM' => A1 w' (hM'.at_ (.tail _ (.head _)))) (fun y c_y u c_u h_y h_u => ?_)
      (conv => arg 5; whnf)
      refine meet2' (f := 16) (n := 0) (n2 := al.length) (v := fun a1 c1 a2 c2 => .tuple #[fd r a1 0 c1 eq, .slice a2 al.length c2]) (xs := cellsE []) (ys := cellsE al) rfl (by kernel_rfl) (fun β ρ w' hM' => A2 w' (hM'.at_ (.tail _ (.tail _ (.tail _ (.head _)))))) (fun z c_z v c_v h_z h_v => ?_)
      (conv => arg 5; whnf)
      refine meetc (f := 17) (v := .bool true) rfl (by kernel_rfl) (fun β ρ w' hM' => same none 0 0 [] none 0 w' sl_nil rfl at_nil sl_nil at_nil r0 0) ?_
      (conv => arg 5; whnf)
      refine wp_g0 (fun _ => ?_) (fun h => absurd h (by simp))
      (conv => arg 5; whnf)
      refine meetc (f := 17) (v := .bool true) rfl (by kernel_rfl) (fun β ρ w' hM' => same p (n - 1) c_p lt a' c' w' h_p htl.symm (hM'.at_ (.tail _ (.tail _ (.tail _ (.tail _ (.head _)))))) hs' (hat w' (hM'.at_ (.tail _ (.tail _ (.tail _ (.tail _ (.tail _ (.head _)))))))) r lq) ?_
      (conv => arg 5; whnf)
      refine wp_prim (.bool false) (fun w => neq_same _ _ x w) ?_
      (conv => arg 5; whnf)
      refine wp_g0 (fun _ => ?_) (fun h => absurd h (by simp))
      (conv => arg 5; whnf)
      refine meetc (f := 17) (v := .bool true) rfl (by kernel_rfl) (fun β ρ w' hM' => same y 0 c_y [] z c_z w' h_y rfl (hM'.at_ (.tail _ (.tail _ (.head _)))) h_z (hM'.at_ (.head _)) r eq) ?_
      (conv => arg 5; whnf)
      refine meetc (f := 18) (v := .bool true) rfl (by kernel_rfl) (fun β ρ w' hM' => events u al.length c_u al v c_v w' h_u rfl (hM'.at_ (.tail _ (.tail _ (.tail _ (.head _))))) h_v (hM'.at_ (.tail _ (.head _)))) ?_
      (conv => arg 5; whnf)
      refine meet1F (f := 19) (n := ys.length) (v := fun a1 c1 => fd r a1 ys.length c1 lo) (xs := cellsE ys) rfl (by kernel_rfl) (fun β ρ w' hM' => T1 w' (hM'.at_ (.tail _ (.tail _ (.tail _ (.tail _ (.tail _ (.head _))))))) (hM'.at_ (.tail _ (.tail _ (.tail _ (.tail _ (.tail _ (.tail _ (.head _))))))))) (fun t c_t h_t f_t => ?_)
      (conv => arg 5; whnf)
      refine meetL (f := 20) (n := ys.length) (v := fun a1 c1 => fd r a1 ys.length c1 lo) (xs := cellsE ys) (rowF (pt a n) (cellsE l)) (.tail _ (.tail _ (.tail _ (.tail _ (.tail _ (.tail _ (.head _))))))) rfl (by kernel_rfl) (fun β ρ w' hM' => T2 w' (hM'.at_ (.tail _ (.tail _ (.tail _ (.tail _ (.tail _ (.tail _ (.head _)))))))) (hM'.at_ (.tail _ (.tail _ (.tail _ (.tail _ (.tail _ (.tail _ (.tail _ (.head _)))))))))) (fun k c_k h_k => ?_)
      (conv => arg 5; whnf)
      refine meetc (f := 17) (v := .bool true) rfl (by kernel_rfl) (fun β ρ w' hM' => same t ys.length c_t ys k c_k w' h_t rfl (hM'.at_ (.tail _ (.head _))) h_k (hM'.at_ (.head _)) r lo) ?_
      (conv => arg 5; whnf)
      refine meetc (f := 21) (v := .bool cv) rfl (by kernel_rfl) (fun β ρ w' hM' => C1 w' (hM'.at_ (.tail _ (.tail _ (.tail _ (.tail _ (.tail _ (.tail _ (.tail _ (.head _))))))))) (hM'.at_ (.tail _ (.tail _ (.tail _ (.tail _ (.tail _ (.tail _ (.tail _ (.tail _ (.head _))))))))))) ?_
      (conv => arg 5; whnf)
      refine meetc (f := 22) (v := .bool cv) rfl (by kernel_rfl) (fun β ρ w' hM' => C2 w' (hM'.at_ (.tail _ (.tail _ (.tail _ (.tail _ (.tail _ (.tail _ (.tail _ (.head _))))))))) (hM'.at_ (.tail _ (.tail _ (.tail _ (.tail _ (.tail _ (.tail _ (.tail _ (.tail _ (.head _))))))))))) ?_
      (conv => arg 5; whnf)
      refine wp_prim (.bool true) (fun w => by cases cv <;> rfl) ?_
      (conv => arg 5; whnf)
      refine meetc (f := 10) (v := .bool true) rfl (by kernel_rfl) (fun β ρ w' hM' => live w') ?_
      (conv => arg 5; whnf)
      exact wp_back fun β ρ w' hM' => ⟨rfl, hM'.below⟩
  · (conv => arg 5; whnf)
    refine meetc (f := 10) (v := .bool true) rfl (by kernel_rfl) (fun β ρ w' hM' => live w') ?_
    (conv => arg 5; whnf)
    exact wp_back fun β ρ w' hM' => ⟨rfl, hM'.below⟩
end Go.Proofs.Ytlfiaebnknhmbaa.feedTells
