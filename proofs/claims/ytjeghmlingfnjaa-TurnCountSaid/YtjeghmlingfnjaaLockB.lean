/- Layer 9 (lock), by contract: the document's answers, and new tables. -/
import Derived.Test.YtjeghmlingfnjaaLockA
namespace Go.Proofs.Ytjeghmlingfnjaa.lock
open Go.RowKit Sx
set_option linter.unusedVariables false
set_option linter.unusedSimpArgs false
theorem at2 {w : World} {a b xs ys} (h : At w a xs) (h' : At w b ys) : ∀ φ ∈ [rowF a xs, rowF b ys], ∀ g, φ.g = some g → ∃ o, w.heap[g]? = some o ∧ φ.holds o := by
  intro φ hφ
  simp only [List.mem_cons, List.not_mem_nil, or_false] at hφ
  rcases hφ with rfl | rfl
  · exact h
  · exact h'

set_option maxHeartbeats 4000000 in
set_option maxRecDepth 100000 in
theorem same (l : List Int) (a b : Option Addr) (n c d : Nat) (w : World) (hs : Sl a n c) (ht : Sl b n d) (hn : n = l.length) (hrow : At w (pt a n) (ic l)) (hrow' : At w (pt b n) (ic l)) : Calls Try.prog 36 (List.toArray [.slice a n c, .slice b n d]) w fun e w' =>  e = .returned (.bool true) ∧ Below w.heap.size w w' := by
  have hn63 := hs.le
  refine calls_of_exec env_ok Try.func36 rfl [(6, (line [0, 1, 2, 3, 4, 5, 6, 7, 8], []))] (by kernel_rfl) [rowF (pt a n) (ic l), rowF (pt b n) (ic l)] (at2 hrow hrow') ?_
  (conv => arg 5; whnf)
  refine wp_br (fun h => absurd h (by simp)) (fun _ => ?_)
  (conv => arg 5; whnf)
  refine loop_rule env_ok [(6, (line [0, 1, 2, 3, 4, 5, 6, 7, 8], []))] (by kernel_rfl) (fun k : Nat => k ≤ n) (fun k => (⟨[], [], [rowF (pt a n) (ic l), rowF (pt b n) (ic l)]⟩, sl 26 [(0, .v (.slice a n c)), (1, .v (.slice b n d)), (4, .v (.bool false)), (5, .v (.int .i64 (k : Nat)))])) (fun k => n - k) 0 (Nat.zero_le _) ⟨by repeat' first | exact trivial | refine ⟨.inl rfl, ?_⟩ | refine ⟨.inr rfl, ?_⟩, ⟨by repeat' first | exact trivial | refine ⟨.inl rfl, ?_⟩ | refine ⟨.inr rfl, ?_⟩, by repeat' first | exact trivial | refine ⟨.inl rfl, ?_⟩ | refine ⟨.inr rfl, ?_⟩, fun _ h => h⟩, rfl⟩ ?_
  intro k hk
  (conv => arg 5; whnf)
  refine wp_br (fun h1 => ?_) (fun h1 => ?_)
  · have hlt : k < n := by simp at h1; omega
    have hx : l[k]? = some l[k] := List.getElem?_eq_getElem (by omega)
    generalize l[k] = x at hx
    (conv => arg 5; whnf)
    refine wp_must ⟨by omega, by omega, hs.some hlt⟩ ?_
    (conv => arg 5; whnf)
    refine readP (.int .i64 (x)) rfl (.head _) (show k < n by omega) (hs.some (show k < n by omega)) (ic_get (hx)) (j := k) (by simp) ?_
    (conv => arg 5; whnf)
    refine wp_must ⟨by omega, by omega, ht.some hlt⟩ ?_
    (conv => arg 5; whnf)
    refine readP (.int .i64 (x)) rfl (.tail _ (.head _)) (show k < n by omega) (ht.some (show k < n by omega)) (ic_get (hx)) (j := k) (by simp) ?_
    (conv => arg 5; whnf)
    refine wp_br (fun h => absurd h (by simp)) (fun _ => ?_)
    (conv => arg 5; whnf)
    refine wp_must ⟨by omega, by omega⟩ ?_
    (conv => arg 5; whnf)
    refine wp_end ⟨k + 1, hlt, ⟨by repeat' first | exact trivial | refine ⟨.inl rfl, ?_⟩ | refine ⟨.inr rfl, ?_⟩, ⟨by repeat' first | exact trivial | refine ⟨.inl rfl, ?_⟩ | refine ⟨.inr rfl, ?_⟩, by repeat' first | exact trivial | refine ⟨.inl rfl, ?_⟩ | refine ⟨.inr rfl, ?_⟩, fun _ h => h⟩, rfl⟩, by show n - (k + 1) < n - k; omega⟩
  · (conv => arg 5; whnf)
    exact wp_back fun β ρ w' hM' => ⟨rfl, hM'.below⟩

set_option maxHeartbeats 4000000 in
set_option maxRecDepth 100000 in
theorem rfree (l : List Int) (a : Option Addr) (n c : Nat) (w : World) (i : Int) (hs : Sl a n c) (hn : n = l.length) (hrow : At w (pt a n) (ic l)) : Calls Try.prog 38 (List.toArray [.slice a n c, .int .i64 i]) w fun e w' =>  e = .returned (.bool (freeB l i)) ∧ Below w.heap.size w w' := by
  have no : hasB l i = false → (false : Bool) = freeB l i := fun h => by unfold freeB; rw [h]; rfl
  refine calls_of_exec env_ok Try.func38 rfl [] (by kernel_rfl) [rowF (pt a n) (ic l)] (at1 hrow) ?_
  (conv => arg 5; whnf)
  refine wp_g1 (fun h => ?_) (fun h => ?_)
  · (conv => arg 5; whnf)
    refine wp_g1 (fun h1 => ?_) (fun h1 => ?_)
    · have h2 : 0 ≤ i ∧ i < l.length := by simp at h h1; omega
      have h3 := has_iff.2 h2
      (conv => arg 5; whnf)
      refine wp_must ⟨by omega, by omega, hs.some (show i.toNat < n by omega)⟩ ?_
      (conv => arg 5; whnf)
      refine readP (.int .i64 (at_ l i)) rfl (.head _) (show i.toNat < n by omega) (hs.some (show i.toNat < n by omega)) (ic_get (at_get h2)) (j := i.toNat) (by simp) ?_
      (conv => arg 5; whnf)
      exact wp_back fun β ρ w' hM' => ⟨by unfold freeB; rw [h3]; rfl, hM'.below⟩
    · have h3 : hasB l i = false := by simp [hasB]; simp at h1; omega
      (conv => arg 5; whnf)
      exact wp_back fun β ρ w' hM' => ⟨retB (no h3), hM'.below⟩
  · have h3 : hasB l i = false := by simp [hasB]; simp at h; omega
    (conv => arg 5; whnf)
    exact wp_back fun β ρ w' hM' => ⟨retB (no h3), hM'.below⟩

set_option maxHeartbeats 4000000 in
set_option maxRecDepth 100000 in
theorem rtake (l : List Int) (a : Option Addr) (n c : Nat) (w : World) (i who : Int) (hs : Sl a n c) (hn : n = l.length) (hrow : At w (pt a n) (ic l)) (hl : l.length ≤ 1000000) : Calls Try.prog 31 (List.toArray [.slice a n c, .int .i64 i, .int .i64 who]) w fun e w' => ∃ i1 : One, Sl i1.1 n i1.2 ∧ Lays w w' (rowF (pt a n) (ic l)).g e (.tuple #[.slice i1.1 n i1.2, .int .i64 (takeE l i who)]) (rowF (pt i1.1 n) (ic (takeV l i who))) := by
  refine calls_of_exec env_ok Try.func31 rfl [] (by kernel_rfl) [rowF (pt a n) (ic l)] (at1 hrow) ?_
  (conv => arg 5; whnf)
  refine wp_g0 (fun h => ?_) (fun h => ?_)
  · (conv => arg 5; whnf)
    refine wp_g0 (fun h1 => ?_) (fun h1 => ?_)
    · have h2 : 0 ≤ i ∧ i < l.length := by simp at h h1; omega
      have h0 := has_iff.2 h2
      (conv => arg 5; whnf)
      refine wp_br (fun h3 => ?_) (fun h3 => ?_)
      · have h4 : decide (who ≥ 1) = false := by simp at h3 ⊢; omega
        have hE : takeE l i who = 1 := by unfold takeE; rw [h0, h4]; rfl
        have hV : takeV l i who = l := by unfold takeV; rw [hE]; rfl
        rw [hE, hV]
        (conv => arg 5; whnf)
        exact wp_back fun β ρ w' hM' => ⟨(a, c), hs, lays_old rfl hM'.below (hM'.at_ List.mem_cons_self)⟩
      · have h4 : decide (who ≥ 1) = true := by simp at h3 ⊢; omega
        (conv => arg 5; whnf)
        refine wp_must ⟨by omega, by omega, hs.some (show i.toNat < n by omega)⟩ ?_
        (conv => arg 5; whnf)
        refine readP (.int .i64 (at_ l i)) rfl (.head _) (show i.toNat < n by omega) (hs.some (show i.toNat < n by omega)) (ic_get (at_get h2)) (j := i.toNat) (by simp) ?_
        (conv => arg 5; whnf)
        refine wp_br (fun h5 => ?_) (fun h5 => ?_)
        · have h6 : (at_ l i == 0) = false := by simpa using h5
          have hE : takeE l i who = 6 := by unfold takeE; rw [h0, h4, h6]; rfl
          have hV : takeV l i who = l := by unfold takeV; rw [hE]; rfl
          rw [hE, hV]
          (conv => arg 5; whnf)
          exact wp_back fun β ρ w' hM' => ⟨(a, c), hs, lays_old rfl hM'.below (hM'.at_ List.mem_cons_self)⟩
        · have h6 : (at_ l i == 0) = true := by simpa using h5
          have hE : takeE l i who = 0 := by unfold takeE; rw [h0, h4, h6]; rfl
          have hV : takeV l i who = withV l i who := by unfold takeV; rw [hE]; rfl
          rw [hE, hV]
          (conv => arg 5; whnf)
          refine ⟨ic l, by rw [ic_length, hn]; omega, ic_one l, fun β ρ w' hM' ad had j u hu => ?_, ?_⟩
          · subst had
            have h1 := hM'.at_ List.mem_cons_self
            rw [pt_pos (k := 0) (by have := (List.getElem?_eq_some_iff.1 hu).1; rw [ic_length] at this; omega)] at h1
            exact h1.cell hu
          · (conv => arg 5; whnf)
            refine wp_must ⟨by show 0 + n ≤ maxLen; unfold maxLen; omega, by show (0 + n) * 8 ≤ 140737488355328; omega, fun ha => hs.2.2 ha⟩ ?_
            (conv => arg 5; whnf)
            refine wp_must ⟨by omega, by show i < ((0 + n : Nat) : Int); omega⟩ ?_
            (conv => arg 5; whnf)
            refine wp_must (by show i.toNat * 1 + 1 ≤ ([] ++ ic l).length; rw [List.nil_append, ic_length]; omega) ?_
            have e1 : spl ([] ++ ic l) (i.toNat * 1) [.int .i64 (who)] = ic (withV l i (who)) := by rw [Nat.mul_one, List.nil_append]; exact spl_set l i.toNat _ (by omega)
            (conv => arg 5; whnf)
            rw [e1]; refine wp_share fun a1 c1 hs1 hf1 => ?_
            have hs2 : Sl a1 n c1 := by have h : Sl a1 (0 + n) c1 := hs1; rwa [Nat.zero_add] at h
            (conv => arg 5; whnf)
            exact wp_back fun β ρ w' hM' => ⟨(a1, c1), hs2, Gives.lays ⟨by rw [Nat.zero_add]; rfl, hM'.below, give1 _ hM' List.mem_cons_self hf1⟩⟩
    · have h0 : hasB l i = false := by simp [hasB]; simp at h1; omega
      have hE : takeE l i who = 1 := by unfold takeE; rw [h0]; rfl
      have hV : takeV l i who = l := by unfold takeV; rw [hE]; rfl
      rw [hE, hV]
      (conv => arg 5; whnf)
      exact wp_back fun β ρ w' hM' => ⟨(a, c), hs, lays_old rfl hM'.below (hM'.at_ List.mem_cons_self)⟩
  · have h0 : hasB l i = false := by simp [hasB]; simp at h; omega
    have hE : takeE l i who = 1 := by unfold takeE; rw [h0]; rfl
    have hV : takeV l i who = l := by unfold takeV; rw [hE]; rfl
    rw [hE, hV]
    (conv => arg 5; whnf)
    exact wp_back fun β ρ w' hM' => ⟨(a, c), hs, lays_old rfl hM'.below (hM'.at_ List.mem_cons_self)⟩

set_option maxHeartbeats 4000000 in
set_option maxRecDepth 100000 in
theorem rgive (l : List Int) (a : Option Addr) (n c : Nat) (w : World) (i who : Int) (hs : Sl a n c) (hn : n = l.length) (hrow : At w (pt a n) (ic l)) (hl : l.length ≤ 1000000) : Calls Try.prog 33 (List.toArray [.slice a n c, .int .i64 i, .int .i64 who]) w fun e w' => ∃ i1 : One, Sl i1.1 n i1.2 ∧ Lays w w' (rowF (pt a n) (ic l)).g e (.tuple #[.slice i1.1 n i1.2, .int .i64 (giveE l i who)]) (rowF (pt i1.1 n) (ic (giveV l i who))) := by
  refine calls_of_exec env_ok Try.func33 rfl [] (by kernel_rfl) [rowF (pt a n) (ic l)] (at1 hrow) ?_
  (conv => arg 5; whnf)
  refine wp_g0 (fun h => ?_) (fun h => ?_)
  · (conv => arg 5; whnf)
    refine wp_g0 (fun h1 => ?_) (fun h1 => ?_)
    · have h2 : 0 ≤ i ∧ i < l.length := by simp at h h1; omega
      have h0 := has_iff.2 h2
      (conv => arg 5; whnf)
      refine wp_br (fun h3 => ?_) (fun h3 => ?_)
      · have h4 : decide (who ≥ 1) = false := by simp at h3 ⊢; omega
        have hE : giveE l i who = 1 := by unfold giveE; rw [h0, h4]; rfl
        have hV : giveV l i who = l := by unfold giveV; rw [hE]; rfl
        rw [hE, hV]
        (conv => arg 5; whnf)
        exact wp_back fun β ρ w' hM' => ⟨(a, c), hs, lays_old rfl hM'.below (hM'.at_ List.mem_cons_self)⟩
      · have h4 : decide (who ≥ 1) = true := by simp at h3 ⊢; omega
        (conv => arg 5; whnf)
        refine wp_must ⟨by omega, by omega, hs.some (show i.toNat < n by omega)⟩ ?_
        (conv => arg 5; whnf)
        refine readP (.int .i64 (at_ l i)) rfl (.head _) (show i.toNat < n by omega) (hs.some (show i.toNat < n by omega)) (ic_get (at_get h2)) (j := i.toNat) (by simp) ?_
        (conv => arg 5; whnf)
        refine wp_br (fun h5 => ?_) (fun h5 => ?_)
        · have h6 : (at_ l i == who) = false := by simpa using h5
          have hE : giveE l i who = 7 := by unfold giveE; rw [h0, h4, h6]; rfl
          have hV : giveV l i who = l := by unfold giveV; rw [hE]; rfl
          rw [hE, hV]
          (conv => arg 5; whnf)
          exact wp_back fun β ρ w' hM' => ⟨(a, c), hs, lays_old rfl hM'.below (hM'.at_ List.mem_cons_self)⟩
        · have h6 : (at_ l i == who) = true := by simpa using h5
          have hE : giveE l i who = 0 := by unfold giveE; rw [h0, h4, h6]; rfl
          have hV : giveV l i who = withV l i 0 := by unfold giveV; rw [hE]; rfl
          rw [hE, hV]
          (conv => arg 5; whnf)
          refine ⟨ic l, by rw [ic_length, hn]; omega, ic_one l, fun β ρ w' hM' ad had j u hu => ?_, ?_⟩
          · subst had
            have h1 := hM'.at_ List.mem_cons_self
            rw [pt_pos (k := 0) (by have := (List.getElem?_eq_some_iff.1 hu).1; rw [ic_length] at this; omega)] at h1
            exact h1.cell hu
          · (conv => arg 5; whnf)
            refine wp_must ⟨by show 0 + n ≤ maxLen; unfold maxLen; omega, by show (0 + n) * 8 ≤ 140737488355328; omega, fun ha => hs.2.2 ha⟩ ?_
            (conv => arg 5; whnf)
            refine wp_must ⟨by omega, by show i < ((0 + n : Nat) : Int); omega⟩ ?_
            (conv => arg 5; whnf)
            refine wp_must (by show i.toNat * 1 + 1 ≤ ([] ++ ic l).length; rw [List.nil_append, ic_length]; omega) ?_
            have e1 : spl ([] ++ ic l) (i.toNat * 1) [.int .i64 (0)] = ic (withV l i (0)) := by rw [Nat.mul_one, List.nil_append]; exact spl_set l i.toNat _ (by omega)
            (conv => arg 5; whnf)
            rw [e1]; refine wp_share fun a1 c1 hs1 hf1 => ?_
            have hs2 : Sl a1 n c1 := by have h : Sl a1 (0 + n) c1 := hs1; rwa [Nat.zero_add] at h
            (conv => arg 5; whnf)
            exact wp_back fun β ρ w' hM' => ⟨(a1, c1), hs2, Gives.lays ⟨by rw [Nat.zero_add]; rfl, hM'.below, give1 _ hM' List.mem_cons_self hf1⟩⟩
    · have h0 : hasB l i = false := by simp [hasB]; simp at h1; omega
      have hE : giveE l i who = 1 := by unfold giveE; rw [h0]; rfl
      have hV : giveV l i who = l := by unfold giveV; rw [hE]; rfl
      rw [hE, hV]
      (conv => arg 5; whnf)
      exact wp_back fun β ρ w' hM' => ⟨(a, c), hs, lays_old rfl hM'.below (hM'.at_ List.mem_cons_self)⟩
  · have h0 : hasB l i = false := by simp [hasB]; simp at h; omega
    have hE : giveE l i who = 1 := by unfold giveE; rw [h0]; rfl
    have hV : giveV l i who = l := by unfold giveV; rw [hE]; rfl
    rw [hE, hV]
    (conv => arg 5; whnf)
    exact wp_back fun β ρ w' hM' => ⟨(a, c), hs, lays_old rfl hM'.below (hM'.at_ List.mem_cons_self)⟩

set_option maxHeartbeats 4000000 in
set_option maxRecDepth 100000 in
theorem rheld (l : List Int) (a : Option Addr) (n c : Nat) (w : World) (who : Int) (hs : Sl a n c) (hn : n = l.length) (hrow : At w (pt a n) (ic l)) (hl : l.length ≤ 1000000) : Calls Try.prog 40 (List.toArray [.slice a n c, .int .i64 who]) w fun e w' => ∃ i : One, Sl i.1 (heldV l who).length i.2 ∧ Gives w w' e (.slice i.1 (heldV l who).length i.2) [rowF (pt i.1 (heldV l who).length) (ic (heldV l who))] := by
  have hn63 := hs.le
  have hHV : heldV l who = ups (holdP l who) n := by rw [hn]; rfl
  generalize heldV l who = hv at *
  refine calls_of_exec env_ok Try.func40 rfl [] (by kernel_rfl) [rowF (pt a n) (ic l)] (at1 hrow) ?_
  (conv => arg 5; whnf)
  refine loop_nil 5 3 1 rfl ?_
  (conv => arg 5; whnf)
  refine loop_rule env_ok [] (by kernel_rfl) (fun i : Nat × List Int => i.1 ≤ n ∧ i.2 = ups (holdP l who) i.1) (fun i => (⟨[], [some ⟨3, 1, i.2.length, ic i.2⟩], [rowF (pt a n) (ic l)]⟩, sl 28 [(0, .v (.slice a n c)), (1, .v (.int .i64 who)), (4, .v (.slice none 0 0)), (5, .r 0), (6, .v (.int .i64 (i.1 : Nat)))])) (fun i => n - i.1) (0, []) ⟨Nat.zero_le _, rfl⟩ ⟨by repeat' first | exact trivial | refine ⟨.inl rfl, ?_⟩ | refine ⟨.inr rfl, ?_⟩, ⟨by repeat' first | exact trivial | refine ⟨.inl rfl, ?_⟩ | refine ⟨.inr rfl, ?_⟩, by repeat' first | exact trivial | refine ⟨.inl rfl, ?_⟩ | refine ⟨.inr rfl, ?_⟩, fun _ h => h⟩, rfl⟩ ?_
  rintro ⟨k, out⟩ ⟨hk, hr⟩
  simp only [] at hk hr
  have hlen := ups_le (holdP l who) k
  rw [← hr] at hlen
  have c1 : ic (out ++ [(k : Int)]) = ic out ++ [.int .i64 (k : Int)] := ic_app _ _
  have l1 : (out ++ [(k : Int)]).length = out.length + 1 := by simp
  (conv => arg 5; whnf)
  refine wp_br (fun h1 => ?_) (fun h1 => ?_)
  · have hlt : k < n := by simp at h1; omega
    have hx : l[k]? = some l[k] := List.getElem?_eq_getElem (by omega)
    have hat : at_ l k = l[k] := by show l[(k : Int).toNat]?.getD 0 = _; rw [show (k : Int).toNat = k from rfl, hx]; rfl
    have hsu := ups_succ (holdP l who) k
    rw [show holdP l who k = (decide (who ≥ 1) && (at_ l k == who)) from rfl, hat] at hsu
    rw [← hr] at hsu
    generalize l[k] = x at *
    (conv => arg 5; whnf)
    refine wp_g1 (fun h2 => ?_) (fun h2 => ?_)
    · rw [h2] at hsu
      (conv => arg 5; whnf)
      refine wp_must ⟨by omega, by omega, hs.some hlt⟩ ?_
      (conv => arg 5; whnf)
      refine readP (.int .i64 (x)) rfl (.head _) (show k < n by omega) (hs.some (show k < n by omega)) (ic_get (hx)) (j := k) (by simp) ?_
      (conv => arg 5; whnf)
      refine wp_br (fun h3 => ?_) (fun h3 => ?_)
      · have hr2 : ups (holdP l who) (k + 1) = out ++ [(k : Int)] := by rw [hsu, h3]; rfl
        (conv => arg 5; whnf)
        refine wp_must ⟨by show out.length + 1 ≤ maxLen; unfold maxLen; omega, by show (out.length + 1) * 8 ≤ 140737488355328; omega⟩ ?_
        (conv => arg 5; whnf)
        refine wp_must ⟨by omega, by omega⟩ ?_
        (conv => arg 5; whnf)
        refine wp_end ⟨(k + 1, out ++ [(k : Int)]), ⟨hlt, by simp only [hr2]⟩, ⟨by repeat' first | exact trivial | refine ⟨.inl rfl, ?_⟩ | refine ⟨.inr rfl, ?_⟩, ⟨by repeat' first | exact trivial | refine ⟨.inl rfl, ?_⟩ | refine ⟨.inr rfl, ?_⟩, by show LeO (α := Row) _ [some ⟨3, 1, (out ++ [(k : Int)]).length, ic (out ++ [(k : Int)])⟩]; simp only [c1, l1]; repeat' first | exact trivial | refine ⟨.inl rfl, ?_⟩ | refine ⟨.inr rfl, ?_⟩, fun _ h => h⟩, rfl⟩, by show n - (k + 1) < n - k; omega⟩
      · have hr2 : ups (holdP l who) (k + 1) = out := by rw [hsu, h3]; rfl
        (conv => arg 5; whnf)
        refine wp_must ⟨by omega, by omega⟩ ?_
        (conv => arg 5; whnf)
        refine wp_end ⟨(k + 1, out), ⟨hlt, by simp only [hr2]⟩, ⟨by repeat' first | exact trivial | refine ⟨.inl rfl, ?_⟩ | refine ⟨.inr rfl, ?_⟩, ⟨by repeat' first | exact trivial | refine ⟨.inl rfl, ?_⟩ | refine ⟨.inr rfl, ?_⟩, by show LeO (α := Row) _ [some ⟨3, 1, (out).length, ic (out)⟩]; simp only [c1, l1]; repeat' first | exact trivial | refine ⟨.inl rfl, ?_⟩ | refine ⟨.inr rfl, ?_⟩, fun _ h => h⟩, rfl⟩, by show n - (k + 1) < n - k; omega⟩
    · have hr2 : ups (holdP l who) (k + 1) = out := by rw [hsu, h2]; rfl
      (conv => arg 5; whnf)
      refine wp_must ⟨by omega, by omega⟩ ?_
      (conv => arg 5; whnf)
      refine wp_end ⟨(k + 1, out), ⟨hlt, by simp only [hr2]⟩, ⟨by repeat' first | exact trivial | refine ⟨.inl rfl, ?_⟩ | refine ⟨.inr rfl, ?_⟩, ⟨by repeat' first | exact trivial | refine ⟨.inl rfl, ?_⟩ | refine ⟨.inr rfl, ?_⟩, by show LeO (α := Row) _ [some ⟨3, 1, (out).length, ic (out)⟩]; simp only [c1, l1]; repeat' first | exact trivial | refine ⟨.inl rfl, ?_⟩ | refine ⟨.inr rfl, ?_⟩, fun _ h => h⟩, rfl⟩, by show n - (k + 1) < n - k; omega⟩
  · have hkn : k = n := by simp at h1; omega
    subst hkn
    rw [hHV, ← hr]
    (conv => arg 5; whnf)
    refine wp_share fun a1 c1 hs1 hf1 => ?_
    (conv => arg 5; whnf)
    exact wp_back fun β ρ w' hM' => ⟨(a1, c1), hs1, rfl, hM'.below, give1 _ hM' List.mem_cons_self hf1⟩

set_option maxHeartbeats 4000000 in
set_option maxRecDepth 100000 in
theorem rfirst (l : List Int) (a : Option Addr) (n c : Nat) (w : World) (who : Int) (hs : Sl a n c) (hn : n = l.length) (hrow : At w (pt a n) (ic l)) : Calls Try.prog 42 (List.toArray [.slice a n c, .int .i64 who]) w fun e w' =>  e = .returned (.int .i64 (firstV l who : Nat)) ∧ Below w.heap.size w w' := by
  have hn63 := hs.le
  have hF : firstV l who = srch (lackP l who) (n - 0) 0 := by rw [hn]; rfl
  refine calls_of_exec env_ok Try.func42 rfl [] (by kernel_rfl) [rowF (pt a n) (ic l)] (at1 hrow) ?_
  (conv => arg 5; whnf)
  refine loop_rule env_ok [] (by kernel_rfl) (fun k : Nat => k ≤ n ∧ firstV l who = srch (lackP l who) (n - k) k) (fun k => (⟨[], [], [rowF (pt a n) (ic l)]⟩, sl 25 [(0, .v (.slice a n c)), (1, .v (.int .i64 who)), (4, .v (.int .i64 0)), (5, .v (.int .i64 (k : Nat)))])) (fun k => n - k) 0 ⟨Nat.zero_le _, hF⟩ ⟨by repeat' first | exact trivial | refine ⟨.inl rfl, ?_⟩ | refine ⟨.inr rfl, ?_⟩, ⟨by repeat' first | exact trivial | refine ⟨.inl rfl, ?_⟩ | refine ⟨.inr rfl, ?_⟩, by repeat' first | exact trivial | refine ⟨.inl rfl, ?_⟩ | refine ⟨.inr rfl, ?_⟩, fun _ h => h⟩, rfl⟩ ?_
  rintro k ⟨hk, hr⟩
  (conv => arg 5; whnf)
  refine wp_br (fun h1 => ?_) (fun h1 => ?_)
  · have hlt : k < n := by simp at h1; omega
    have hx : l[k]? = some l[k] := List.getElem?_eq_getElem (by omega)
    have hat : at_ l k = l[k] := by show l[(k : Int).toNat]?.getD 0 = _; rw [show (k : Int).toNat = k from rfl, hx]; rfl
    rw [srch_at _ hlt, show lackP l who k = !(decide (who ≥ 1) && (at_ l k == who)) from rfl, hat] at hr
    generalize l[k] = x at *
    (conv => arg 5; whnf)
    refine wp_g0 (fun h2 => ?_) (fun h2 => ?_)
    · have h4 : decide (who ≥ 1) = true := by simp at h2 ⊢; omega
      rw [h4] at hr
      (conv => arg 5; whnf)
      refine wp_must ⟨by omega, by omega, hs.some hlt⟩ ?_
      (conv => arg 5; whnf)
      refine readP (.int .i64 (x)) rfl (.head _) (show k < n by omega) (hs.some (show k < n by omega)) (ic_get (hx)) (j := k) (by simp) ?_
      (conv => arg 5; whnf)
      refine wp_br (fun h3 => ?_) (fun h3 => ?_)
      · have h5 : (x == who) = false := by simpa using h3
        rw [h5] at hr
        (conv => arg 5; whnf)
        exact wp_back fun β ρ w' hM' => ⟨by rw [hr]; rfl, hM'.below⟩
      · have h5 : (x == who) = true := by simpa using h3
        rw [h5] at hr
        (conv => arg 5; whnf)
        refine wp_must ⟨by omega, by omega⟩ ?_
        (conv => arg 5; whnf)
        refine wp_end ⟨k + 1, ⟨hlt, hr⟩, ⟨by repeat' first | exact trivial | refine ⟨.inl rfl, ?_⟩ | refine ⟨.inr rfl, ?_⟩, ⟨by repeat' first | exact trivial | refine ⟨.inl rfl, ?_⟩ | refine ⟨.inr rfl, ?_⟩, by repeat' first | exact trivial | refine ⟨.inl rfl, ?_⟩ | refine ⟨.inr rfl, ?_⟩, fun _ h => h⟩, rfl⟩, by show n - (k + 1) < n - k; omega⟩
    · have h4 : decide (who ≥ 1) = false := by simp at h2 ⊢; omega
      rw [h4] at hr
      (conv => arg 5; whnf)
      exact wp_back fun β ρ w' hM' => ⟨by rw [hr]; rfl, hM'.below⟩
  · have hkn : k = n := by simp at h1; omega
    subst hkn
    rw [Nat.sub_self] at hr
    (conv => arg 5; whnf)
    exact wp_back fun β ρ w' hM' => ⟨by rw [hr]; rfl, hM'.below⟩

def newV (x : Int) : List Int := if 1 ≤ x ∧ x ≤ 8 then List.replicate x.toNat 0 else []
def newE (x : Int) : Int := if 1 ≤ x ∧ x ≤ 8 then 0 else 1
theorem reps_ic : ∀ (k : Nat), reps k [Value.int .i64 0] = ic (List.replicate k 0)
  | 0 => rfl
  | k + 1 => by simp only [reps, reps_ic k]; rfl

set_option maxHeartbeats 4000000 in
set_option maxRecDepth 100000 in
theorem new_ (x : Int) (w : World) : Calls Try.prog 34 (List.toArray [.int .i64 x]) w fun e w' => ∃ i : One, Sl i.1 (newV x).length i.2 ∧ Gives w w' e (.tuple #[.slice i.1 (newV x).length i.2, .int .i64 (newE x)]) [rowF (pt i.1 (newV x).length) (ic (newV x))] := by
  have no : ¬ (1 ≤ x ∧ x ≤ 8) → newV x = [] ∧ newE x = 1 := fun h => ⟨if_neg h, if_neg h⟩
  refine calls_of_exec env_ok Try.func34 rfl [] (by kernel_rfl) [] (by simp) ?_
  (conv => arg 5; whnf)
  refine wp_g0 (fun h => ?_) (fun h => ?_)
  · (conv => arg 5; whnf)
    refine wp_br (fun h1 => ?_) (fun h1 => ?_)
    · obtain ⟨e1, e2⟩ := no (by simp at h1; omega)
      rw [e1, e2]
      (conv => arg 5; whnf)
      exact wp_back fun β ρ w' hM' => ⟨(none, 0), ⟨Nat.zero_le _, by simp [maxLen], fun _ => ⟨rfl, rfl⟩⟩, rfl, hM'.below, fun φ hφ g hg => by simp only [List.mem_singleton] at hφ; subst hφ; cases hg⟩
    · have h2 : 1 ≤ x ∧ x ≤ 8 := by simp at h h1; omega
      have e1 : newV x = List.replicate x.toNat 0 := if_pos h2
      have e2 : newE x = 0 := if_pos h2
      rw [e1, e2, List.length_replicate]
      (conv => arg 5; whnf)
      refine wp_must ⟨by omega, rfl, by omega, by omega⟩ ?_
      (conv => arg 5; whnf)
      rw [reps_ic]; refine wp_share fun a1 c1 hs1 hf1 => ?_
      (conv => arg 5; whnf)
      exact wp_back fun β ρ w' hM' => ⟨(a1, c1), hs1, rfl, hM'.below, give1 _ hM' List.mem_cons_self hf1⟩
  · obtain ⟨e1, e2⟩ := no (by simp at h; omega)
    rw [e1, e2]
    (conv => arg 5; whnf)
    exact wp_back fun β ρ w' hM' => ⟨(none, 0), ⟨Nat.zero_le _, by simp [maxLen], fun _ => ⟨rfl, rfl⟩⟩, rfl, hM'.below, fun φ hφ g hg => by simp only [List.mem_singleton] at hφ; subst hφ; cases hg⟩

set_option maxHeartbeats 4000000 in
set_option maxRecDepth 100000 in
theorem rnew (x : Int) (w : World) : Calls Try.prog 35 (List.toArray [.int .i64 x]) w fun e w' => ∃ i : One, Sl i.1 (newV x).length i.2 ∧ Gives w w' e (.tuple #[.slice i.1 (newV x).length i.2, .int .i64 (newE x)]) [rowF (pt i.1 (newV x).length) (ic (newV x))] := by
  have no : ¬ (1 ≤ x ∧ x ≤ 8) → newV x = [] ∧ newE x = 1 := fun h => ⟨if_neg h, if_neg h⟩
  refine calls_of_exec env_ok Try.func35 rfl [] (by kernel_rfl) [] (by simp) ?_
  (conv => arg 5; whnf)
  refine wp_g0 (fun h => ?_) (fun h => ?_)
  · (conv => arg 5; whnf)
    refine wp_br (fun h1 => ?_) (fun h1 => ?_)
    · obtain ⟨e1, e2⟩ := no (by simp at h1; omega)
      rw [e1, e2]
      (conv => arg 5; whnf)
      exact wp_back fun β ρ w' hM' => ⟨(none, 0), ⟨Nat.zero_le _, by simp [maxLen], fun _ => ⟨rfl, rfl⟩⟩, rfl, hM'.below, fun φ hφ g hg => by simp only [List.mem_singleton] at hφ; subst hφ; cases hg⟩
    · have h2 : 1 ≤ x ∧ x ≤ 8 := by simp at h h1; omega
      have e1 : newV x = List.replicate x.toNat 0 := if_pos h2
      have e2 : newE x = 0 := if_pos h2
      rw [e1, e2, List.length_replicate]
      (conv => arg 5; whnf)
      refine wp_must ⟨by omega, rfl, by omega, by omega⟩ ?_
      (conv => arg 5; whnf)
      rw [reps_ic]; refine wp_share fun a1 c1 hs1 hf1 => ?_
      (conv => arg 5; whnf)
      exact wp_back fun β ρ w' hM' => ⟨(a1, c1), hs1, rfl, hM'.below, give1 _ hM' List.mem_cons_self hf1⟩
  · obtain ⟨e1, e2⟩ := no (by simp at h; omega)
    rw [e1, e2]
    (conv => arg 5; whnf)
    exact wp_back fun β ρ w' hM' => ⟨(none, 0), ⟨Nat.zero_le _, by simp [maxLen], fun _ => ⟨rfl, rfl⟩⟩, rfl, hM'.below, fun φ hφ g hg => by simp only [List.mem_singleton] at hφ; subst hφ; cases hg⟩

end Go.Proofs.Ytjeghmlingfnjaa.lock
