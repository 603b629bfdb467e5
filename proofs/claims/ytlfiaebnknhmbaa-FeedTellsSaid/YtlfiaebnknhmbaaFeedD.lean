/- Layer 14 (feed), by contract: the document tells. -/
import Derived.Test.YtlfiaebnknhmbaaFeedC
namespace Go.Proofs.Ytlfiaebnknhmbaa.feed
open Go.RowKit Sx
set_option linter.unusedVariables false
set_option linter.unusedSimpArgs false
def From (w : World) (p0 p : Option Addr) : Prop := ∀ ad, p = some ad → w.heap.size ≤ ad.block ∨ ∃ ad', p0 = some ad' ∧ ad'.block = ad.block
theorem lays_from {W w' : World} {m : M} {β ρ} {p0 p a : Option Addr} {N : Nat} {xs ys : List Value} {e : Ending} {v : Value} (he : e = .returned v) (hM : Mem W none m β ρ w') (hm : rowF p xs ∈ m.facts) (hF : From W p0 p) (hG : pt a N = p ∨ pt a N = none) : Lays W w' (rowF p0 ys).g e v (rowF (pt a N) xs) := by
  refine ⟨he, hM.below, fun g hg => ?_⟩
  rcases hG with hG | hG
  · rw [hG] at hg ⊢
    refine ⟨?_, hM.at_ hm g hg⟩
    cases p with
    | none => cases hg
    | some ad =>
      cases hg
      rcases hF ad rfl with h | ⟨ad', h1, h2⟩
      · exact .inl h
      · refine .inr ?_
        rw [h1]
        exact congrArg some h2
  · rw [hG] at hg
    cases hg
set_option maxHeartbeats 4000000 in
set_option maxRecDepth 100000 in
theorem rtell (r lost : Int) (a : Option Addr) (n c : Nat) (l : List Ev) (b : Option Addr) (m d : Nat) (es : List Ev) (w : World) (hs : Sl a n c) (hn : n = l.length) (hrow : At w (pt a n) (cellsE l)) (hs2 : Sl b m d) (hm : m = es.length) (hrow2 : At w (pt b m) (cellsE es)) (hl : l.length ≤ 100000) (hes : es.length ≤ 100000) (hlost : Fits lost) : Calls Try.prog 20 (List.toArray [fd r a n c lost, .slice b m d]) w fun e w' => ∃ i : One, Sl i.1 (tellV r (l, lost) es).1.length i.2 ∧ Lays w w' (rowF (pt a n) (cellsE l)).g e (fd r i.1 (tellV r (l, lost) es).1.length i.2 (tellV r (l, lost) es).2) (rowF (pt i.1 (tellV r (l, lost) es).1.length) (cellsE (tellV r (l, lost) es).1)) := by
  have hm63 := hs2.le
  generalize hTV : tellV r (l, lost) es = tv at *
  refine calls_of_exec env_ok Try.func20 rfl [] (schedQ_ok _ _ (by kernel_rfl)) [rowF (pt a n) (cellsE l), rowF (pt b m) (cellsE es)] (at2 hrow hrow2) ?_
  (conv => arg 5; whnf)
  refine loop_rule env_ok [] (by kernel_rfl) (fun q : Nat × Option Addr × Nat × Nat × Option Addr × List Ev × Int => q.1 ≤ m ∧ q.2.2.1 = q.2.2.2.2.2.1.length ∧ Sl q.2.1 q.2.2.1 q.2.2.2.1 ∧ (pt q.2.1 q.2.2.1 = q.2.2.2.2.1 ∨ pt q.2.1 q.2.2.1 = none) ∧ From w (pt a n) q.2.2.2.2.1 ∧ q.2.2.1 ≤ n + q.1 ∧ Fits q.2.2.2.2.2.2 ∧ tellV r q.2.2.2.2.2 (es.drop q.1) = tv) (fun q => (⟨[some ([.v (.int .i64 r), .v (.slice q.2.1 q.2.2.1 q.2.2.2.1), .v (.int .i64 q.2.2.2.2.2.2)], 24), some ([.v (.int .i64 0), .v (.slice none 0 0), .v (.int .i64 0)], 24)], [], [rowF q.2.2.2.2.1 (cellsE q.2.2.2.2.2.1), rowF (pt b m) (cellsE es)]⟩, sl 46 [(1, .v (.slice b m d)), (2, .p 0 0), (4, .p 1 0), (5, .v (.int .i64 (q.1 : Nat)))])) (fun q => m - q.1) (0, a, n, c, pt a n, l, lost) ⟨Nat.zero_le _, hn, hs, .inl rfl, fun ad had => .inr ⟨ad, had, rfl⟩, Nat.le_refl _, hlost, hTV⟩ ⟨by repeat' first | exact trivial | refine ⟨.inl rfl, ?_⟩ | refine ⟨.inr rfl, ?_⟩, ⟨by repeat' first | exact trivial | refine ⟨.inl rfl, ?_⟩ | refine ⟨.inr rfl, ?_⟩, by repeat' first | exact trivial | refine ⟨.inl rfl, ?_⟩ | refine ⟨.inr rfl, ?_⟩, fun _ h => h⟩, rfl⟩ ?_
  rintro ⟨k, a0, n0, c0, p0, it, lo⟩ ⟨hk, hn0, hs0, hG, hF, hnk, hlo, htv⟩
  simp only [] at hk hn0 hs0 hG hF hnk hlo htv
  have hlo2 := hlo
  unfold Fits at hlo2
  (conv => arg 5; whnf)
  refine wp_br (fun h1 => ?_) (fun h1 => ?_)
  · have hlt : k < m := by simp at h1; omega
    rw [tellV_at (by omega)] at htv
    have hx := nx_get (l := es) (k := k) (by omega)
    have hfx := tell1_fits (r := r) (q := (it, lo)) (x := nx es k) hlo
    generalize nx es k = x at hx htv hfx
    (conv => arg 5; whnf)
    refine wp_g1 (fun h2 => ?_) (fun h2 => ?_)
    · (conv => arg 5; whnf)
      refine wp_br (fun h3 => ?_) (fun h3 => ?_)
      · have e1 : tell1 r (it, lo) x = (it ++ [x], lo) := by unfold tell1; rw [if_pos (by simp at h2 h3; exact ⟨h2, by show (it.length : Int) < r; omega⟩)]
        rw [e1] at htv hfx
        have hc1 : cellsE (it ++ [x]) = cellsE it ++ x.cells := by rw [cellsE_append]; simp [cellsE]
        have hl1 : (it ++ [x]).length = it.length + 1 := by simp
        have hR : ∀ {w' : World}, At w' p0 (cellsE it) → At w' (pt a0 n0) (cellsE it) := fun h => by
          rcases hG with hG | hG
          · rw [hG]; exact h
          · rw [hG]; exact at_none
        (conv => arg 5; whnf)
        refine ⟨cellsE it, by rw [cellsE_length, hn0], cellsE_one it, fun β ρ w' hM' ad had q u hu => (by subst had; have h1 := hR (hM'.at_ (.head _)); rw [pt_pos (k := 0) (by have := cellsE_pos hu; omega)] at h1; exact h1.cell hu), ?_⟩
        (conv => arg 5; whnf)
        refine wp_must ⟨by show 0 + n0 ≤ maxLen; unfold maxLen; omega, by show (0 + n0) * 72 ≤ _; omega, fun h => ⟨(hs0.2.2 h).1, (hs0.2.2 h).2⟩⟩ ?_
        (conv => arg 5; whnf)
        refine wp_must ⟨by omega, by omega, hs2.some hlt⟩ ?_
        (conv => arg 5; whnf)
        refine readE (l := es) (k := k) (x := x) rfl (.tail _ (.head _)) hlt (hs2.some hlt) hx rfl ?_
        (conv => arg 5; whnf)
        refine wp_must ⟨by show 0 + n0 + 1 ≤ maxLen; unfold maxLen; omega, by show (0 + n0 + 1) * 72 ≤ _; omega⟩ ?_
        (conv => arg 5; whnf)
        refine wp_share fun a1 c1 hs1 hf1 => ?_
        (conv => arg 5; whnf)
        refine wp_must ⟨by omega, by omega⟩ ?_
        (conv => arg 5; whnf)
        refine wp_end ⟨(k + 1, a1, 0 + n0 + 1, c1, a1, it ++ [x], lo), ⟨hlt, (show 0 + n0 + 1 = (it ++ [x]).length from by rw [hl1, hn0, Nat.zero_add]), hs1, .inl (show pt a1 (0 + n0 + 1) = a1 from if_neg (by omega)), fun ad had => (hf1 ad had).elim .inl (fun h => by cases h), by show 0 + n0 + 1 ≤ n + (k + 1); omega, hfx, htv⟩, ⟨by repeat' first | exact trivial | refine ⟨.inl rfl, ?_⟩ | refine ⟨.inr rfl, ?_⟩, ⟨by repeat' first | exact trivial | refine ⟨.inl rfl, ?_⟩ | refine ⟨.inr rfl, ?_⟩, by repeat' first | exact trivial | refine ⟨.inl rfl, ?_⟩ | refine ⟨.inr rfl, ?_⟩, fun φ h => by simp only [List.mem_cons, List.not_mem_nil, or_false] at h; rcases h with rfl | rfl; (show rowF a1 (cellsE (it ++ [x])) ∈ _; rw [hc1]; exact .head _); exact .tail _ (.tail _ (.head _))⟩, rfl⟩, by show m - (k + 1) < m - k; omega⟩
      · skip
        have e1 : tell1 r (it, lo) x = (it, min lo 1099511627775 + 1) := by unfold tell1; rw [if_neg (by simp at h2 h3 ⊢; omega)]
        rw [e1] at htv hfx
        (conv => arg 5; whnf)
        refine wp_br (fun h5 => ?_) (fun h5 => ?_)
        · have e2 : min lo 1099511627775 + 1 = 1099511627776 := by simp at h5; omega
          rw [e2] at htv hfx
          (conv => arg 5; whnf)
          refine wp_must ⟨by omega, by omega⟩ ?_
          (conv => arg 5; whnf)
          refine wp_end ⟨(k + 1, a0, n0, c0, p0, it, 1099511627776), ⟨hlt, hn0, hs0, hG, hF, by show n0 ≤ n + (k + 1); omega, hfx, htv⟩, ⟨by repeat' first | exact trivial | refine ⟨.inl rfl, ?_⟩ | refine ⟨.inr rfl, ?_⟩, ⟨by repeat' first | exact trivial | refine ⟨.inl rfl, ?_⟩ | refine ⟨.inr rfl, ?_⟩, by repeat' first | exact trivial | refine ⟨.inl rfl, ?_⟩ | refine ⟨.inr rfl, ?_⟩, fun _ h => h⟩, rfl⟩, by show m - (k + 1) < m - k; omega⟩
        · have e2 : min lo 1099511627775 + 1 = lo + 1 := by simp at h5; omega
          rw [e2] at htv hfx
          (conv => arg 5; whnf)
          refine wp_must ⟨by show (-9223372036854775808 : Int) ≤ lo + 1; omega, by show lo + 1 ≤ (9223372036854775807 : Int); simp at h5; omega⟩ ?_
          (conv => arg 5; whnf)
          refine wp_must ⟨by omega, by omega⟩ ?_
          (conv => arg 5; whnf)
          refine wp_end ⟨(k + 1, a0, n0, c0, p0, it, lo + 1), ⟨hlt, hn0, hs0, hG, hF, by show n0 ≤ n + (k + 1); omega, hfx, htv⟩, ⟨by repeat' first | exact trivial | refine ⟨.inl rfl, ?_⟩ | refine ⟨.inr rfl, ?_⟩, ⟨by repeat' first | exact trivial | refine ⟨.inl rfl, ?_⟩ | refine ⟨.inr rfl, ?_⟩, by repeat' first | exact trivial | refine ⟨.inl rfl, ?_⟩ | refine ⟨.inr rfl, ?_⟩, fun _ h => h⟩, rfl⟩, by show m - (k + 1) < m - k; omega⟩
    · skip
      have e1 : tell1 r (it, lo) x = (it, min lo 1099511627775 + 1) := by unfold tell1; rw [if_neg (by simp at h2 ⊢; omega)]
      rw [e1] at htv hfx
      (conv => arg 5; whnf)
      refine wp_br (fun h5 => ?_) (fun h5 => ?_)
      · have e2 : min lo 1099511627775 + 1 = 1099511627776 := by simp at h5; omega
        rw [e2] at htv hfx
        (conv => arg 5; whnf)
        refine wp_must ⟨by omega, by omega⟩ ?_
        (conv => arg 5; whnf)
        refine wp_end ⟨(k + 1, a0, n0, c0, p0, it, 1099511627776), ⟨hlt, hn0, hs0, hG, hF, by show n0 ≤ n + (k + 1); omega, hfx, htv⟩, ⟨by repeat' first | exact trivial | refine ⟨.inl rfl, ?_⟩ | refine ⟨.inr rfl, ?_⟩, ⟨by repeat' first | exact trivial | refine ⟨.inl rfl, ?_⟩ | refine ⟨.inr rfl, ?_⟩, by repeat' first | exact trivial | refine ⟨.inl rfl, ?_⟩ | refine ⟨.inr rfl, ?_⟩, fun _ h => h⟩, rfl⟩, by show m - (k + 1) < m - k; omega⟩
      · have e2 : min lo 1099511627775 + 1 = lo + 1 := by simp at h5; omega
        rw [e2] at htv hfx
        (conv => arg 5; whnf)
        refine wp_must ⟨by show (-9223372036854775808 : Int) ≤ lo + 1; omega, by show lo + 1 ≤ (9223372036854775807 : Int); simp at h5; omega⟩ ?_
        (conv => arg 5; whnf)
        refine wp_must ⟨by omega, by omega⟩ ?_
        (conv => arg 5; whnf)
        refine wp_end ⟨(k + 1, a0, n0, c0, p0, it, lo + 1), ⟨hlt, hn0, hs0, hG, hF, by show n0 ≤ n + (k + 1); omega, hfx, htv⟩, ⟨by repeat' first | exact trivial | refine ⟨.inl rfl, ?_⟩ | refine ⟨.inr rfl, ?_⟩, ⟨by repeat' first | exact trivial | refine ⟨.inl rfl, ?_⟩ | refine ⟨.inr rfl, ?_⟩, by repeat' first | exact trivial | refine ⟨.inl rfl, ?_⟩ | refine ⟨.inr rfl, ?_⟩, fun _ h => h⟩, rfl⟩, by show m - (k + 1) < m - k; omega⟩
  · have hkm : k = m := by simp at h1; omega
    subst hkm
    rw [List.drop_eq_nil_of_le (by omega)] at htv
    have htv : (it, lo) = tv := htv
    rw [← htv]
    simp only []
    rw [← hn0]
    (conv => arg 5; whnf)
    exact wp_back fun β ρ w' hM' => ⟨(a0, c0), hs0, lays_from rfl hM' (.head _) hF hG⟩
end Go.Proofs.Ytlfiaebnknhmbaa.feed
