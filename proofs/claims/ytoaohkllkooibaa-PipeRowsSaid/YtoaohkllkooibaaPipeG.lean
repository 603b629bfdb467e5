/- Layer 8 (pipe), by contract: Send, Take, Close, New. -/
import Derived.Test.YtoaohkllkooibaaPipeF
import Derived.Test.YtoaohkllkooibaaSxE
namespace Go.Proofs.Ytoaohkllkooibaa.pipe
open Go.RowKit Sx
set_option linter.unusedVariables false
set_option linter.unusedSimpArgs false
theorem sl_nil : Sl none 0 0 := ⟨Nat.le_refl _, by simp [maxLen], fun _ => ⟨rfl, rfl⟩⟩
theorem at_nil {w : World} {n : Nat} {xs : List Value} : At w (pt none n) xs := by unfold pt; split <;> exact at_none
set_option maxHeartbeats 4000000 in
set_option maxRecDepth 100000 in
theorem emptied (room : Int) (sh : Bool) (a0 : Option Addr) (n0 c0 : Nat) (g cap : Nat) (l : List It) (cl : Bool) (w : World) (hl : l.length ≤ 100000) (hch : ∃ o, w.heap[g]? = some o ∧ (chanI g cap l cl).holds o) : Calls Try.prog 21 (List.toArray [pv room sh a0 n0 c0, .chan (some g)]) w fun e w' =>  ∃ i : One, Sl i.1 l.length i.2 ∧ e = .returned (pv room sh i.1 l.length i.2) ∧ w.grownBy w' (some g) ∧ ∀ g', (rowF (pt i.1 l.length) (cellsE l)).g = some g' → w.heap.size ≤ g' ∧ ∃ o, w'.heap[g']? = some o ∧ (rowF (pt i.1 l.length) (cellsE l)).holds o := by
  have RC := fun (l' : List It) (w' : World) hch => receive_ g cap l' cl w' hch
  refine calls_of_turn ((env_ok.keeps).open_ [23] false) Try.func21 rfl [] (by kernel_rfl) (some g) [chanI g cap l cl] (fun φ hφ g' hg' => by simp only [List.mem_singleton] at hφ; subst hφ; cases hg'; exact hch) ?_
  (conv => arg 5; whnf)
  refine op_turn (φ := chanI g cap (l) cl) (g := g) rfl rfl (by kernel_rfl) (.head _) rfl (.inr rfl) (by intro F hF; cases hF) (fun β ρ w' hM' => (RC (l) w' (hM'.fact _ (.head _) g rfl).2).mono fun e w2 h => ⟨_, [chanI g cap (l.drop (0 + 1)) cl], h.1, h.2.1, fun ψ hψ => (by simp only [List.mem_singleton] at hψ; subst hψ; exact .inr ⟨rfl, by rw [List.drop_one]; exact h.2.2⟩), ?_⟩)
  (conv => arg 5; whnf)
  refine loop_nilC 0 2 36 3 [.v (.int .i64 room), .v (.bool sh), .v (.slice none 0 0)] 31 rfl rfl ?_
  (conv => arg 5; whnf)
  refine loop_ruleE ((env_ok.keeps).open_ [23] false) [] (by kernel_rfl) [2, 2] (fun k : Nat => k ≤ l.length) (fun k => (⟨[some ([.v (.int .i64 room), .v (.bool sh), .r 0], 31), some ([.v (.int .i64 0), .v (.bool false), .v (.slice none 0 0)], 31), some (itc (recvX (l.drop k)), 36)], [some ⟨36, 3, k, cellsE (l.take k)⟩], [chanI g cap (l.drop (k + 1)) cl]⟩, sl 28 [(1, .v (.chan (some g))), (2, .p 0 0), (4, .p 1 0), (5, .p 2 0), (6, .v (.int .i64 (recvE (l.drop k) cl)))])) (fun k => l.length - k) 0 (Nat.zero_le _) ⟨by repeat' first | exact trivial | refine ⟨.inl rfl, ?_⟩ | refine ⟨.inr rfl, ?_⟩, ⟨by repeat' first | exact trivial | refine ⟨.inl rfl, ?_⟩ | refine ⟨.inr rfl, ?_⟩, by repeat' first | exact trivial | refine ⟨.inl rfl, ?_⟩ | refine ⟨.inr rfl, ?_⟩, fun _ h => h⟩, rfl⟩ ?_
  intro k hk
  by_cases hlt : k < l.length
  · have hx := nx_get hlt
    have htk : l.take (k + 1) = l.take k ++ [nx l k] := by rw [List.take_add_one, hx]; rfl
    have hdk : l.drop k = nx l k :: l.drop (k + 1) := by
      obtain ⟨hk2, hx2⟩ := List.getElem?_eq_some_iff.1 hx
      rw [List.drop_eq_getElem_cons hk2, hx2]
    have he : recvE (l.drop k) cl = 0 := by rw [hdk]; rfl
    have hrx : recvX (l.drop k) = nx l k := by rw [hdk]; rfl
    rw [he, hrx]
    generalize nx l k = x at *
    have hc1 : cellsE (l.take (k + 1)) = cellsE (l.take k) ++ x.cells := by rw [htk, cellsE_append]; simp [cellsE]
    (conv => arg 5; whnf)
    refine wp_must ⟨by show k + 1 ≤ maxLen; unfold maxLen; omega, by show (k + 1) * 32 ≤ _; omega⟩ ?_
    (conv => arg 5; whnf)
    refine op_turn (φ := chanI g cap (l.drop (k + 1)) cl) (g := g) rfl rfl (by kernel_rfl) (.head _) rfl (.inr rfl) (by intro F hF; cases hF) (fun β ρ w' hM' => (RC (l.drop (k + 1)) w' (hM'.fact _ (.head _) g rfl).2).mono fun e w2 h => ⟨_, [chanI g cap (l.drop (k + 1 + 1)) cl], h.1, h.2.1, fun ψ hψ => (by simp only [List.mem_singleton] at hψ; subst hψ; exact .inr ⟨rfl, by rw [← List.tail_drop]; exact h.2.2⟩), ?_⟩)
    (conv => arg 5; whnf)
    refine wp_end ⟨k + 1, hlt, ⟨by repeat' first | exact trivial | refine ⟨.inl rfl, ?_⟩ | refine ⟨.inr rfl, ?_⟩, ⟨by repeat' first | exact trivial | refine ⟨.inl rfl, ?_⟩ | refine ⟨.inr rfl, ?_⟩, by show LeO (α := Row) _ [some ⟨36, 3, k + 1, cellsE (l.take (k + 1))⟩]; simp only [hc1, It.cells]; repeat' first | exact trivial | refine ⟨.inl rfl, ?_⟩ | refine ⟨.inr rfl, ?_⟩, fun _ h => h⟩, rfl⟩, by show l.length - (k + 1) < l.length - k; omega⟩
  · obtain rfl : k = l.length := by omega
    have he : ∃ q : Nat, recvE (l.drop l.length) cl = ((q + 1 : Nat) : Int) := by rw [List.drop_length]; unfold recvE; cases cl; exact ⟨6, rfl⟩; exact ⟨7, rfl⟩
    obtain ⟨q, hq⟩ := he
    rw [hq]
    (conv => arg 5; whnf)
    refine wp_share fun a1 c1 hs1 hf1 => ?_
    refine wp_back fun β ρ w' hM' => ⟨(a1, c1), hs1, rfl, hM'.grown, fun g' hg' => ?_⟩
    have hrow : At w' a1 (cellsE (l.take l.length)) := hM'.at_ (.head _)
    rw [List.take_length] at hrow
    have hat := hrow.pt l.length
    refine ⟨?_, hat g' hg'⟩
    by_cases h0 : l.length = 0
    · rw [show rowF (pt a1 l.length) (cellsE l) = rowF none (cellsE l) by rw [show pt a1 l.length = none from if_pos h0]] at hg'; cases hg'
    · rw [show pt a1 l.length = a1 from if_neg h0] at hg'
      cases a1 with
      | none => cases hg'
      | some ad =>
        cases hg'
        rcases hf1 ad rfl with h | h
        · exact h
        · exfalso
          have hgg : ad.block = g := by simpa using h
          obtain ⟨o, ho, hp⟩ := hrow ad.block rfl
          obtain ⟨_, cur, e, fr, rfl, _⟩ := hp ad rfl
          obtain ⟨_, o2, ho2, s2, r2, rfl⟩ := hM'.fact (chanI g cap (l.drop (l.length + 1)) cl) (.tail _ (.head _)) g rfl
          rw [hgg, ho2] at ho
          cases ho
end Go.Proofs.Ytoaohkllkooibaa.pipe
