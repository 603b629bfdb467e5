/- Layer 14 (feed), by contract: All; the document reads all. -/
import Derived.Test.YtlfiaebnknhmbaaFeedA
import Derived.Test.YtlfiaebnknhmbaaSxA
namespace Go.Proofs.Ytlfiaebnknhmbaa.feed
open Go.RowKit Sx
set_option linter.unusedVariables false
set_option linter.unusedSimpArgs false
theorem own2 {w : World} {a : Option Addr} {n : Nat} {l : List Ev} {e : TypeId} (h : At w (pt a n) (cellsE l)) : ∀ φ ∈ [ownF (.slice none 0 0) e 8 0 (cellsE []), rowF (pt a n) (cellsE l)], ∀ g, φ.g = some g → ∃ o, w.heap[g]? = some o ∧ φ.holds o := by
  intro φ hφ
  simp only [List.mem_cons, List.not_mem_nil, or_false] at hφ
  rcases hφ with rfl | rfl
  · intro g hg; cases hg
  · exact h
theorem hfsA {W : World} {m : M} {v : Value} {n : Nat} {φ ψ : Fact} (h : ∀ g, φ.g = some g → g < W.heap.size) (hV : TV W v n) (hm : φ ∈ m.facts) : ∀ ψ ∈ [φ], ψ ∈ m.facts ∧ ∀ g, ψ.g = some g → v.ownBlock ≠ some g := by
  intro ψ hψ
  simp only [List.mem_singleton] at hψ
  subst hψ
  refine ⟨hm, fun g hg he => ?_⟩
  have h1 := h g hg
  rcases hV with ⟨rfl, _⟩ | ⟨g', cap, rfl, hW⟩
  · cases he
  · have e1 : g' = g := by simpa [Value.ownBlock] using he
    omega
theorem pt_gives {W w' : World} {a : Option Addr} {n : Nat} {xs : List Value} (h : ∀ ad, a = some ad → W.heap.size ≤ ad.block) (hat : At w' (pt a n) xs) : ∀ g, (rowF (pt a n) xs).g = some g → W.heap.size ≤ g ∧ ∃ o, w'.heap[g]? = some o ∧ (rowF (pt a n) xs).holds o := fun g hg => by
  refine ⟨?_, hat g hg⟩
  by_cases h0 : n = 0
  · rw [show rowF (pt a n) xs = rowF none xs by rw [show pt a n = none from if_pos h0]] at hg; cases hg
  · rw [show rowF (pt a n) xs = rowF a xs by rw [show pt a n = a from if_neg h0]] at hg
    cases a with
    | none => cases hg
    | some ad => cases hg; exact h ad rfl
def tailV (lost : Int) : List Ev := if 0 < lost then [lag lost] else []
def allV (l : List Ev) (lost : Int) : List Ev := l ++ tailV lost
def endV (lost : Int) : Int := if 0 < lost then 0 else lost
theorem later_tail {a : Option Addr} {n : Nat} {l : List Ev} {a1 : Option Addr} {c1 : Nat} {l1 : List Ev} (h : Later a n l a1 c1 l1) {a2 : Option Addr} {c2 : Nat} (h2 : Later a1 l1.length l1 a2 c2 l1.tail) : Later a n l a2 c2 l1.tail := ⟨h2.1, fun w hw => h2.2 w (h.2 w hw)⟩
theorem err_zero {l : List Ev} {lost : Int} (h : errV l lost = 0) (told : List Ev) : (told ++ [hdV l lost]) ++ allV l.tail (lostV l lost) = told ++ allV l lost ∧ endV (lostV l lost) = endV lost ∧ l.tail.length + (tailV (lostV l lost)).length < l.length + (tailV lost).length := by
  cases l with
  | cons x l => simp [hdV, allV, lostV]
  | nil =>
    by_cases hl : 0 < lost
    · simp [hdV, allV, lostV, hl, endV, tailV]
    · simp [errV, hl] at h
theorem err_seven {l : List Ev} {lost : Int} (h : errV l lost ≠ 0) : l = [] ∧ ¬ 0 < lost ∧ errV l lost = 7 ∧ lostV l lost = lost ∧ hdV l lost = ev0 := by
  cases l with
  | cons x l => simp [errV] at h
  | nil =>
    by_cases hl : 0 < lost
    · simp [errV, hl] at h
    · simp [errV, hl, lostV, hdV]
theorem tailV_le (lost : Int) : (tailV lost).length ≤ 1 := by unfold tailV; split <;> simp
theorem give2 {W : World} {m : M} {β ρ} {w' : World} {n1 n2 : Nat} {a b : Option Addr} {xs ys : List Value} (hM : Mem W none m β ρ w') (hx : ∀ g, (rowF (pt a n1) xs).g = some g → W.heap.size ≤ g ∧ ∃ o, w'.heap[g]? = some o ∧ (rowF (pt a n1) xs).holds o) (hy : ∀ g, (rowF (pt b n2) ys).g = some g → W.heap.size ≤ g ∧ ∃ o, w'.heap[g]? = some o ∧ (rowF (pt b n2) ys).holds o) :
    ∀ φ ∈ [rowF (pt a n1) xs, rowF (pt b n2) ys], ∀ g, φ.g = some g → W.heap.size ≤ g ∧ ∃ o, w'.heap[g]? = some o ∧ φ.holds o := by
  intro φ hφ
  simp only [List.mem_cons, List.not_mem_nil, or_false] at hφ
  rcases hφ with rfl | rfl
  · exact hx
  · exact hy
set_option maxHeartbeats 4000000 in
set_option maxRecDepth 100000 in
theorem all (r lost : Int) (a : Option Addr) (n c : Nat) (l : List Ev) (w : World) (hs : Sl a n c) (hn : n = l.length) (hrow : At w (pt a n) (cellsE l)) (hl : l.length ≤ 100000) : Calls Try.prog 15 (List.toArray [fd r a n c lost]) w fun e w' => ∃ i : Two, (Sl i.1.1 0 i.1.2 ∧ Sl i.2.1 (allV l lost).length i.2.2) ∧ Gives w w' e (.tuple #[fd r i.1.1 0 i.1.2 (endV lost), .slice i.2.1 (allV l lost).length i.2.2]) [rowF (pt i.1.1 0) (cellsE []), rowF (pt i.2.1 (allV l lost).length) (cellsE (allV l lost))] := by
  have hL0 := later_self hs hn
  have hlen0 : (allV l lost).length ≤ n + 1 := by unfold allV; rw [List.length_append, ← hn]; have := tailV_le lost; omega
  refine calls_of_exec ((env_ok.keeps.how []).open_ [1000000] true) Try.func15 rfl [(6, (line [0, 1, 2, 3, 4, 5, 6], [0]))] (schedQ_ok _ _ (by kernel_rfl)) [ownF (.slice none 0 0) 36 8 0 (cellsE []), rowF (pt a n) (cellsE l)] (own2 hrow) ?_
  (conv => arg 5; whnf)
  refine scope_rule ((env_ok.keeps.how []).open_ [1000000] true) [(6, (line [0, 1, 2, 3, 4, 5, 6], [0]))] 0 rfl (schedQ_ok _ _ (by kernel_rfl)) (schedQ_ok _ _ (by kernel_rfl)) (fun q : Option Addr × Nat × List Ev × Int × List Ev × Value => Later a n l q.1 q.2.1 q.2.2.1 ∧ q.2.2.2.2.1 ++ allV q.2.2.1 q.2.2.2.1 = allV l lost ∧ endV q.2.2.2.1 = endV lost ∧ TV w q.2.2.2.2.2 q.2.2.2.2.1.length) (fun q => (⟨[some ([.v (.int .i64 r), .v (.slice q.1 q.2.2.1.length q.2.1), .v (.int .i64 q.2.2.2.1)], 27), some ([.v (.int .i64 0), .v (.slice none 0 0), .v (.int .i64 0)], 27)], [], [ownF q.2.2.2.2.2 36 8 q.2.2.2.2.1.length (cellsE q.2.2.2.2.1), rowF (pt a n) (cellsE l)]⟩, sl 27 [(1, .p 0 0), (2, .p 1 0), (3, .v (.slice none 0 0)), (4, .v q.2.2.2.2.2)])) (fun q => q.2.2.1.length + (tailV q.2.2.2.1).length) (l.length + (tailV lost).length + 1) ?_ ?_
  · subst hn
    have hfr0 : ∀ g, (rowF (pt a l.length) (cellsE l)).g = some g → g < w.heap.size := fun g hg => by obtain ⟨o, ho, _⟩ := hrow g hg; exact (Array.getElem?_eq_some_iff.1 ho).1
    obtain ⟨a', c', hL', hT⟩ := take_any r lost a l.length c l hL0.1 rfl
    have hE0 := fun h => err_zero (l := l) (lost := lost) h ([] : List Ev)
    have hE7 := fun h => err_seven (l := l) (lost := lost) h
    have hL2 := later_tail hL0 hL'
    have htl : l.tail.length = l.length - 1 := List.length_tail
    have hsz := congrArg List.length (show [] ++ allV l lost = allV l lost from rfl)
    rw [List.length_append] at hsz
    generalize hLO : lostV l lost = lo2 at *
    generalize hX : hdV l lost = x at *
    generalize hER : errV l lost = er at *
    (conv => arg 5; whnf)
    refine meetc (f := 24) (v := .tuple #[fd r a' (l.length - 1) c' lo2, x.val, .int .i64 er]) rfl (by kernel_rfl) (fun β ρ w' hM' => hT w' (hL0.2 w' (hM'.at_ (.tail _ (.head _))))) ?_
    by_cases he : er = 0
    · subst he
      obtain ⟨e1, e2, e3⟩ := hE0 rfl
      rw [← htl]
      have hc1 : cellsE (([] : List Ev) ++ [x]) = cellsE ([] : List Ev) ++ x.cells := by rw [cellsE_append]; simp [cellsE]
      have hl1 : (([] : List Ev) ++ [x]).length = ([] : List Ev).length + 1 := by simp
      (conv => arg 5; whnf)
      refine op_append ((env_ok.keeps.how []).open_ [1000000] true) (v := (.slice none 0 0)) (n := ([] : List Ev).length) (xs := cellsE ([] : List Ev)) (news := x.cells) [rowF (pt a l.length) (cellsE l)] rfl rfl rfl rfl rfl rfl (by exact .head _) tv_nil (cellsE_length _) (by show ([] : List Ev).length + 1 ≤ maxLen; unfold maxLen; omega) (by show (([] : List Ev).length + 1) * 72 ≤ _; omega) (by intro F hF; cases hF; exact .inr ⟨_, .head _, rfl⟩) (by exact hfsA (ψ := rowF none []) hfr0 tv_nil (.tail _ (.head _))) (fun v2 hV2 => ?_)
      (conv => arg 5; whnf)
      rw [← hc1, ← hl1]; refine wp_end ⟨rfl, (a', c', l.tail, lo2, ([] : List Ev) ++ [x], v2), ⟨hL2, e1.trans (show [] ++ allV l lost = allV l lost from rfl), e2.trans (show endV lost = endV lost from rfl), (by rw [hl1]; exact hV2)⟩, ⟨by repeat' first | exact trivial | refine ⟨.inl rfl, ?_⟩ | refine ⟨.inr rfl, ?_⟩, ⟨by repeat' first | exact trivial | refine ⟨.inl rfl, ?_⟩ | refine ⟨.inr rfl, ?_⟩, by repeat' first | exact trivial | refine ⟨.inl rfl, ?_⟩ | refine ⟨.inr rfl, ?_⟩, fun _ h => h⟩, rfl⟩, by show l.tail.length + (tailV lo2).length < l.length + (tailV lost).length + 1; omega⟩
    · obtain ⟨e1, e2, e3, e4, e5⟩ := hE7 he
      have e6 : allV l lost = ([] : List Ev) := by rw [← (show [] ++ allV l lost = allV l lost from rfl), e1]; unfold allV tailV; rw [if_neg e2]; simp
      have e7 : endV lost = lost := by rw [← (show endV lost = endV lost from rfl)]; unfold endV; rw [if_neg e2]
      subst e3 e4
      rw [e6, e7]
      have e8 : l.length - 1 = 0 := by rw [e1]; rfl
      have hsl : Sl a' 0 c' := by have := hL'.1; rw [e1] at this; exact this
      rw [e8]
      (conv => arg 5; whnf)
      refine meet1F (f := 25) (n := 0) (v := fun a1 c1 => .slice a1 0 c1) (xs := cellsE []) rfl (by kernel_rfl) (fun β ρ w' hM' => copiedG a' 0 c' [] w' hsl rfl (by decide) at_none) (fun b1 d1 hs1 hf1 => ?_)
      (conv => arg 5; whnf)
      refine wp_back fun β ρ w' hM' => ?_
      have hO := own_of_fact hM' (v := (.slice none 0 0)) (e := 36) (size := 8) (n := ([] : List Ev).length) (xs := cellsE ([] : List Ev)) (.tail _ (.head _)) tv_nil (cellsE_length _)
      have hO2 := fact_of_own hO
      obtain ⟨a2, c2, hv2, hs2, hb2, hat2⟩ := own_row hO
      exact ⟨((b1, d1), (a2, c2)), ⟨hs1, hs2⟩, by rw [← hv2]; rfl, hM'.below, give2 hM' (fun g hg => by cases hg) (pt_gives hb2 hat2)⟩
  · rintro ⟨a1, c1, l1, lo, told, v⟩ ⟨hL, hA, hE, hV⟩
    simp only [] at hL hA hE hV
    have hfr0 : ∀ g, (rowF (pt a n) (cellsE l)).g = some g → g < w.heap.size := fun g hg => by obtain ⟨o, ho, _⟩ := hrow g hg; exact (Array.getElem?_eq_some_iff.1 ho).1
    obtain ⟨a', c', hL', hT⟩ := take_any r lo a1 l1.length c1 l1 hL.1 rfl
    have hE0 := fun h => err_zero (l := l1) (lost := lo) h told
    have hE7 := fun h => err_seven (l := l1) (lost := lo) h
    have hL2 := later_tail hL hL'
    have htl : l1.tail.length = l1.length - 1 := List.length_tail
    have hsz := congrArg List.length hA
    rw [List.length_append] at hsz
    generalize hLO : lostV l1 lo = lo2 at *
    generalize hX : hdV l1 lo = x at *
    generalize hER : errV l1 lo = er at *
    (conv => arg 5; whnf)
    refine meetc (f := 24) (v := .tuple #[fd r a' (l1.length - 1) c' lo2, x.val, .int .i64 er]) rfl (by kernel_rfl) (fun β ρ w' hM' => hT w' (hL.2 w' (hM'.at_ (.tail _ (.head _))))) ?_
    by_cases he : er = 0
    · subst he
      obtain ⟨e1, e2, e3⟩ := hE0 rfl
      rw [← htl]
      have hc1 : cellsE (told ++ [x]) = cellsE told ++ x.cells := by rw [cellsE_append]; simp [cellsE]
      have hl1 : (told ++ [x]).length = told.length + 1 := by simp
      (conv => arg 5; whnf)
      refine op_append ((env_ok.keeps.how []).open_ [1000000] true) (v := v) (n := told.length) (xs := cellsE told) (news := x.cells) [rowF (pt a n) (cellsE l)] rfl rfl rfl rfl rfl rfl (by exact .head _) hV (cellsE_length _) (by show told.length + 1 ≤ maxLen; unfold maxLen; omega) (by show (told.length + 1) * 72 ≤ _; omega) (by intro F hF; cases hF; exact .inr ⟨_, .head _, rfl⟩) (by exact hfsA (ψ := rowF none []) hfr0 hV (.tail _ (.head _))) (fun v2 hV2 => ?_)
      (conv => arg 5; whnf)
      rw [← hc1, ← hl1]; refine wp_end ⟨rfl, (a', c', l1.tail, lo2, told ++ [x], v2), ⟨hL2, e1.trans hA, e2.trans hE, (by rw [hl1]; exact hV2)⟩, ⟨by repeat' first | exact trivial | refine ⟨.inl rfl, ?_⟩ | refine ⟨.inr rfl, ?_⟩, ⟨by repeat' first | exact trivial | refine ⟨.inl rfl, ?_⟩ | refine ⟨.inr rfl, ?_⟩, by repeat' first | exact trivial | refine ⟨.inl rfl, ?_⟩ | refine ⟨.inr rfl, ?_⟩, fun _ h => h⟩, rfl⟩, by show l1.tail.length + (tailV lo2).length < l1.length + (tailV lo).length; omega⟩
    · obtain ⟨e1, e2, e3, e4, e5⟩ := hE7 he
      have e6 : allV l lost = told := by rw [← hA, e1]; unfold allV tailV; rw [if_neg e2]; simp
      have e7 : endV lost = lo := by rw [← hE]; unfold endV; rw [if_neg e2]
      subst e3 e4
      rw [e6, e7]
      have e8 : l1.length - 1 = 0 := by rw [e1]; rfl
      have hsl : Sl a' 0 c' := by have := hL'.1; rw [e1] at this; exact this
      rw [e8]
      (conv => arg 5; whnf)
      refine meet1F (f := 25) (n := 0) (v := fun a1 c1 => .slice a1 0 c1) (xs := cellsE []) rfl (by kernel_rfl) (fun β ρ w' hM' => copiedG a' 0 c' [] w' hsl rfl (by decide) at_none) (fun b1 d1 hs1 hf1 => ?_)
      (conv => arg 5; whnf)
      refine wp_back fun β ρ w' hM' => ?_
      have hO := own_of_fact hM' (v := v) (e := 36) (size := 8) (n := told.length) (xs := cellsE told) (.tail _ (.head _)) hV (cellsE_length _)
      have hO2 := fact_of_own hO
      obtain ⟨a2, c2, hv2, hs2, hb2, hat2⟩ := own_row hO
      exact ⟨((b1, d1), (a2, c2)), ⟨hs1, hs2⟩, by rw [← hv2]; rfl, hM'.below, give2 hM' (fun g hg => by cases hg) (pt_gives hb2 hat2)⟩
set_option maxHeartbeats 4000000 in
set_option maxRecDepth 100000 in
theorem rall (r lost : Int) (a : Option Addr) (n c : Nat) (l : List Ev) (w : World) (hs : Sl a n c) (hn : n = l.length) (hrow : At w (pt a n) (cellsE l)) (hl : l.length ≤ 100000) : Calls Try.prog 16 (List.toArray [fd r a n c lost]) w fun e w' => ∃ i : Two, (Sl i.1.1 0 i.1.2 ∧ Sl i.2.1 (allV l lost).length i.2.2) ∧ Gives w w' e (.tuple #[fd r i.1.1 0 i.1.2 (endV lost), .slice i.2.1 (allV l lost).length i.2.2]) [rowF (pt i.1.1 0) (cellsE []), rowF (pt i.2.1 (allV l lost).length) (cellsE (allV l lost))] := by
  have hL0 := later_self hs hn
  have hlen0 : (allV l lost).length ≤ n + 1 := by unfold allV; rw [List.length_append, ← hn]; have := tailV_le lost; omega
  refine calls_of_exec env_ok.keeps Try.func16 rfl [] (schedQ_ok _ _ (by kernel_rfl)) [rowF (pt a n) (cellsE l)] (at1 hrow) ?_
  (conv => arg 5; whnf)
  refine loop_nil 4 36 8 rfl ?_
  subst hn
  (conv => arg 5; whnf)
  refine loop_rule env_ok.keeps [] (schedQ_ok _ _ (by kernel_rfl)) (fun q : Option Addr × Nat × List Ev × Int × List Ev => Later a l.length l q.1 q.2.1 q.2.2.1 ∧ q.2.2.2.2 ++ allV q.2.2.1 q.2.2.2.1 = allV l lost ∧ endV q.2.2.2.1 = endV lost) (fun q => (⟨[some ([.v (.int .i64 r), .v (.slice q.1 q.2.2.1.length q.2.1), .v (.int .i64 q.2.2.2.1)], 24), some ([.v (.int .i64 0), .v (.slice none 0 0), .v (.int .i64 0)], 24)], [some ⟨36, 8, q.2.2.2.2.length, cellsE q.2.2.2.2⟩], [rowF (pt a l.length) (cellsE l)]⟩, sl 23 [(1, .p 0 0), (2, .p 1 0), (3, .v (.slice none 0 0)), (4, .r 0)])) (fun q => q.2.2.1.length + (tailV q.2.2.2.1).length) (a, c, l, lost, []) ⟨hL0, rfl, rfl⟩ ⟨by repeat' first | exact trivial | refine ⟨.inl rfl, ?_⟩ | refine ⟨.inr rfl, ?_⟩, ⟨by repeat' first | exact trivial | refine ⟨.inl rfl, ?_⟩ | refine ⟨.inr rfl, ?_⟩, by repeat' first | exact trivial | refine ⟨.inl rfl, ?_⟩ | refine ⟨.inr rfl, ?_⟩, fun _ h => h⟩, rfl⟩ ?_
  rintro ⟨a1, c1, l1, lo, told⟩ ⟨hL, hA, hE⟩
  simp only [] at hL hA hE
  obtain ⟨a', c', hL', hT⟩ := rread_any r lo a1 l1.length c1 l1 hL.1 rfl
  have hE0 := fun h => err_zero (l := l1) (lost := lo) h told
  have hE7 := fun h => err_seven (l := l1) (lost := lo) h
  have hL2 := later_tail hL hL'
  have htl : l1.tail.length = l1.length - 1 := List.length_tail
  have hsz := congrArg List.length hA
  rw [List.length_append] at hsz
  generalize hLO : lostV l1 lo = lo2 at *
  generalize hX : hdV l1 lo = x at *
  generalize hER : errV l1 lo = er at *
  (conv => arg 5; whnf)
  refine meetc (f := 14) (v := .tuple #[fd r a' (l1.length - 1) c' lo2, x.val, .int .i64 er]) rfl (by kernel_rfl) (fun β ρ w' hM' => hT w' (hL.2 w' (hM'.at_ (.head _)))) ?_
  by_cases he : er = 0
  · subst he
    obtain ⟨e1, e2, e3⟩ := hE0 rfl
    rw [← htl]
    have hc1 : cellsE (told ++ [x]) = cellsE told ++ x.cells := by rw [cellsE_append]; simp [cellsE]
    have hl1 : (told ++ [x]).length = told.length + 1 := by simp
    (conv => arg 5; whnf)
    refine wp_must ⟨by show told.length + 1 ≤ maxLen; unfold maxLen; omega, by show (told.length + 1) * 72 ≤ _; omega⟩ ?_
    (conv => arg 5; whnf)
    refine wp_end ⟨(a', c', l1.tail, lo2, told ++ [x]), ⟨hL2, e1.trans hA, e2.trans hE⟩, ⟨by repeat' first | exact trivial | refine ⟨.inl rfl, ?_⟩ | refine ⟨.inr rfl, ?_⟩, ⟨by repeat' first | exact trivial | refine ⟨.inl rfl, ?_⟩ | refine ⟨.inr rfl, ?_⟩, by show LeO (α := Row) _ [some ⟨36, 8, (told ++ [x]).length, cellsE (told ++ [x])⟩]; simp only [hc1, hl1, Ev.cells]; repeat' first | exact trivial | refine ⟨.inl rfl, ?_⟩ | refine ⟨.inr rfl, ?_⟩, fun _ h => h⟩, rfl⟩, by show l1.tail.length + (tailV lo2).length < l1.length + (tailV lo).length; omega⟩
  · obtain ⟨e1, e2, e3, e4, e5⟩ := hE7 he
    have e6 : allV l lost = told := by rw [← hA, e1]; unfold allV tailV; rw [if_neg e2]; simp
    have e7 : endV lost = lo := by rw [← hE]; unfold endV; rw [if_neg e2]
    subst e3 e4
    rw [e6, e7]
    have e8 : l1.length - 1 = 0 := by rw [e1]; rfl
    have e9 : l1.length = 0 := by rw [e1]; rfl
    have hsl : Sl a1 0 c1 := by have := hL.1; rw [e1] at this; exact this
    simp only [e9]
    (conv => arg 5; whnf)
    refine wp_share fun a2 c2 hs2 hf2 => ?_
    exact wp_back fun β ρ w' hM' => ⟨((a1, c1), (a2, c2)), ⟨hsl, hs2⟩, rfl, hM'.below, give2 hM' (fun g hg => by cases hg) (giveF _ hM' (.head _) hf2)⟩
end Go.Proofs.Ytlfiaebnknhmbaa.feed
