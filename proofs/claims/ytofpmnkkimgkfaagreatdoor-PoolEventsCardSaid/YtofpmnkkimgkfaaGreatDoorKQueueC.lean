/- Layer 5 (queue): parts of rows; advances. -/
import Derived.Test.YtofpmnkkimgkfaaGreatDoorKQueueL
set_option linter.all false
set_option maxHeartbeats 4000000
set_option maxRecDepth 100000
namespace Go.Proofs.YtofpmnkkimgkfaaGreatDoor.queue
open Go.RowKit Sx txn
theorem at_take {w : World} {a : Option Addr} {xs : List Value} (h : At w a xs) (k : Nat) : At w a (xs.take k) := by
 intro g hg
 obtain ⟨o, ho, hp⟩ := h g hg
 refine ⟨o, ho, fun ad had => ?_⟩
 obtain ⟨h1, cur, e, fr, h2, h3⟩ := hp ad had
 refine ⟨h1, cur, e, fr, h2, fun j u hu => h3 j u ?_⟩
 rw [List.getElem?_take] at hu
 split at hu
 ·exact hu
 ·cases hu
theorem at_drop {w : World} {a : Option Addr} {xs : List Value} (h : At w a xs) (k : Nat) : At w (a.map fun x => x.add k) (xs.drop k) := by
 cases a with
 | none => intro g hg; cases hg
 | some ad =>
  obtain ⟨b, off, sp⟩ := ad
  obtain ⟨o, ho, hp⟩ := h b rfl
  obtain ⟨h1, cur, e, fr, h2, h3⟩ := hp _ rfl
  simp only [] at h1
  subst h1
  show At w (some ((⟨b, off, none⟩ : Addr).add k)) _
  rw [Sx.add_mk]
  intro g hg
  cases hg
  refine ⟨o, ho, fun ad2 had => ?_⟩
  cases had
  refine ⟨rfl, cur, e, fr, h2, fun j u hu => ?_⟩
  rw [List.getElem?_drop] at hu
  have := h3 _ _ hu
  simpa [Nat.add_assoc] using this
def advV (x y : Int) : Int := if inB y 0 4294967295 = false then 1 else if y < x then 3 else 0
theorem advances (x y : Int) (w : World) :
  Calls Tryz.prog 179 #[.int .i64 x, .int .i64 y] w fun e w' => e = .returned (.int .i64 (advV x y)) ∧ Below w.heap.size w w' := by
 refine calls_of_exec env_ok Tryz.func179 rfl [] (by kernel_rfl) [] (by simp) ?_
 refine meet (.bool (inB y 0 4294967295)) (by kernel_rfl) (fun β ρ w' vs hM' hR => ?_) ?_
 ·obtain rfl := Rels.vals_eq (l := [.int .i64 y, .int .i64 0, .int .i64 4294967295]) hR
  exact within y 0 4294967295 w'
 refine wp_br (fun h1 => ?_) (fun h1 => ?_)
 ·exact wp_back fun β ρ w' hM' => ⟨by unfold advV; rw [if_pos (by simpa using h1)]; rfl, hM'.below⟩
 ·refine wp_br (fun h2 => ?_) (fun h2 => ?_)
  ·exact wp_back fun β ρ w' hM' => ⟨by unfold advV; rw [if_neg (by simpa using h1), if_pos (by simpa using h2)]; rfl, hM'.below⟩
  ·exact wp_back fun β ρ w' hM' => ⟨by unfold advV; rw [if_neg (by simpa using h1), if_neg (by simpa using h2)]; rfl, hM'.below⟩
theorem giveF {W : World} {m : M} {β ρ} {w' : World} {a : Option Addr} {xs : List Value} (n : Nat) (hM : Mem W none m β ρ w') (hm : rowF a xs ∈ m.facts) (hf : Fresh W none a) :
  ∀ g, (rowF (pt a n) xs).g = some g → W.heap.size ≤ g ∧ ∃ o, w'.heap[g]? = some o ∧ (rowF (pt a n) xs).holds o := by
 by_cases h : n = 0
 ·rw [show pt a n = none from if_pos h]
  intro g hg
  cases hg
 ·rw [show pt a n = a from if_neg h]
  intro g hg
  refine ⟨?_, hM.at_ hm g hg⟩
  cases a with
  | none => cases hg
  | some ad =>
   cases hg
   rcases hf ad rfl with h1 | h1
   ·exact h1
   ·cases h1
def below (y : Int) (l : List Tx) : List Tx := l.filter fun x => decide (x.n < y)
def above (y : Int) (l : List Tx) : List Tx := l.filter fun x => !decide (x.n < y)
theorem filt_take (p : Tx → Bool) (l : List Tx) (k : Nat) (x : Tx) (h : l[k]? = some x) : (l.take (k + 1)).filter p = (l.take k).filter p ++ (if p x then [x] else []) := by
 rw [List.take_add_one, h]
 by_cases q : p x <;> simp [q]
theorem filt_len (p : Tx → Bool) (l : List Tx) (k : Nat) : ((l.take k).filter p).length ≤ l.length := by
 have h1 := List.length_filter_le p (l.take k)
 have h2 : (l.take k).length ≤ l.length := List.length_take_le' _ _
 omega
theorem cellsL_snoc (l : List Tx) (x : Tx) : cellsL (l ++ [x]) = cellsL l ++ cellsX x := by simp [cellsL]
def acc (s b : Int) (a : Option Addr) (n c : Nat) : Value := .agg #[.int .i64 s, .int .i64 b, .slice a n c]
abbrev Two := (Option Addr × Nat) × (Option Addr × Nat)
theorem advance_ok (s b : Int) (l : List Tx) (a : Option Addr) (n c : Nat) (y : Int) (w : World) (hs : Sl a n c) (hn : n = l.length) (hrow : At w (pt a n) (cellsL l)) (hl : l.length ≤ 1000000) (he : advV b y = 0) :
  Calls Tryz.prog 137 (List.toArray [acc s b a n c, .int .i64 y]) w fun e w' => ∃ i : Two, (Sl i.1.1 (above y l).length i.1.2 ∧ Sl i.2.1 (below y l).length i.2.2) ∧ Gives w w' e (.tuple #[acc s y i.1.1 (above y l).length i.1.2, .slice i.2.1 (below y l).length i.2.2, .int .i64 0]) [rowF (pt i.1.1 (above y l).length) (cellsL (above y l)), rowF (pt i.2.1 (below y l).length) (cellsL (below y l))] := by
 have hadv := fun w => advances b y w
 rw [he] at hadv
 have hn63 := hs.le
 refine calls_of_exec env_ok Tryz.func137 rfl [] (by kernel_rfl) [rowF (pt a n) (cellsL l)] (at1 hrow) ?_
 conv=>arg 5;whnf
 refine meet (.int .i64 0) (by kernel_rfl) (fun β ρ w' vs hM' hR => ?_) ?_
 ·obtain rfl := Rels.vals_eq (l := [.int .i64 b, .int .i64 y]) hR
  exact hadv w'
 conv=>arg 5;whnf
 refine loop_nil 8 31 6 rfl ?_
 refine loop_nil 9 31 6 rfl ?_
 refine loop_rule env_ok [] (by kernel_rfl) (fun k : Nat => k ≤ n) (fun k => (⟨[some ([.v (.int .i64 s), .v (.int .i64 b), .v (.slice a n c)], 65), some ([.v (.int .i64 0), .v (.int .i64 0), .v (.slice none 0 0)], 65)], [some ⟨31, 6, (below y (l.take k)).length, cellsL (below y (l.take k))⟩, some ⟨31, 6, (above y (l.take k)).length, cellsL (above y (l.take k))⟩], [rowF (pt a n) (cellsL l)]⟩, sl 50 [(1, .v (.int .i64 y)), (2, .p 0 0), (4, .p 1 0), (5, .v (.slice none 0 0)), (6, .v (.int .i64 0)), (8, .r 0), (9, .r 1), (25, .v (.slice a n c)), (26, .v (.int .i64 n)), (27, .v (.int .i64 k))])) (fun k => n - k) 0 (Nat.zero_le _) ⟨by repeat' first | exact trivial | refine ⟨.inl rfl, ?_⟩ | refine ⟨.inr rfl, ?_⟩, ⟨by repeat' first | exact trivial | refine ⟨.inl rfl, ?_⟩ | refine ⟨.inr rfl, ?_⟩, by repeat' first | exact trivial | refine ⟨.inl rfl, ?_⟩ | refine ⟨.inr rfl, ?_⟩, fun _ h => h⟩, rfl⟩ ?_
 intro k hk
 conv=>arg 5;whnf
 refine wp_br (fun h1 => ?_) (fun h1 => ?_)
 ·have hlt : k < n := by simp at h1; omega
  have hx : l[k]? = some l[k] := List.getElem?_eq_getElem (by omega)
  generalize l[k] = x at hx
  conv=>arg 5;whnf
  refine wp_must ⟨by omega, by omega, hs.some hlt⟩ ?_
  conv=>arg 5;whnf
  refine readX (l := l) (k := k) rfl (List.mem_cons_self) hlt (hs.some hlt) hx rfl ?_
  conv=>arg 5;whnf
  refine wp_br (fun h2 => ?_) (fun h2 => ?_)
  ·have eo : below y (l.take (k + 1)) = below y (l.take k) ++ [x] := by unfold below; rw [filt_take _ l k x hx, if_pos (by simpa using h2)]
   have en : above y (l.take (k + 1)) = above y (l.take k) := by unfold above; rw [filt_take _ l k x hx, if_neg (by simpa using h2), List.append_nil]
   have ec : cellsL (below y (l.take (k + 1))) = cellsL (below y (l.take k)) ++ cellsX x := by rw [eo, cellsL_snoc]
   have el : (below y (l.take (k + 1))).length = (below y (l.take k)).length + 1 := by rw [eo]; simp
   have hlen : (below y (l.take k)).length ≤ l.length := filt_len _ l k
   conv=>arg 5;whnf
   refine wp_must ⟨by show (below y (l.take k)).length + 1 ≤ maxLen; unfold maxLen; omega, by show ((below y (l.take k)).length + 1) * 56 ≤ 140737488355328; omega⟩ ?_
   conv=>arg 5;whnf
   refine wp_must ⟨by omega, by omega⟩ ?_
   conv=>arg 5;whnf
   refine wp_end ⟨k + 1, hlt, ⟨by repeat' first | exact trivial | refine ⟨.inl rfl, ?_⟩ | refine ⟨.inr rfl, ?_⟩, ⟨by repeat' first | exact trivial | refine ⟨.inl rfl, ?_⟩ | refine ⟨.inr rfl, ?_⟩, by rw [ec, el, en]; repeat' first | exact trivial | refine ⟨.inl rfl, ?_⟩ | refine ⟨.inr rfl, ?_⟩, fun _ h => h⟩, rfl⟩, by show n - (k + 1) < n - k; omega⟩
  ·have eo : above y (l.take (k + 1)) = above y (l.take k) ++ [x] := by unfold above; rw [filt_take _ l k x hx, if_pos (by simpa using h2)]
   have en : below y (l.take (k + 1)) = below y (l.take k) := by unfold below; rw [filt_take _ l k x hx, if_neg (by simpa using h2), List.append_nil]
   have ec : cellsL (above y (l.take (k + 1))) = cellsL (above y (l.take k)) ++ cellsX x := by rw [eo, cellsL_snoc]
   have el : (above y (l.take (k + 1))).length = (above y (l.take k)).length + 1 := by rw [eo]; simp
   have hlen : (above y (l.take k)).length ≤ l.length := filt_len _ l k
   conv=>arg 5;whnf
   refine wp_must ⟨by show (above y (l.take k)).length + 1 ≤ maxLen; unfold maxLen; omega, by show ((above y (l.take k)).length + 1) * 56 ≤ 140737488355328; omega⟩ ?_
   conv=>arg 5;whnf
   refine wp_must ⟨by omega, by omega⟩ ?_
   conv=>arg 5;whnf
   refine wp_end ⟨k + 1, hlt, ⟨by repeat' first | exact trivial | refine ⟨.inl rfl, ?_⟩ | refine ⟨.inr rfl, ?_⟩, ⟨by repeat' first | exact trivial | refine ⟨.inl rfl, ?_⟩ | refine ⟨.inr rfl, ?_⟩, by rw [ec, el, en]; repeat' first | exact trivial | refine ⟨.inl rfl, ?_⟩ | refine ⟨.inr rfl, ?_⟩, fun _ h => h⟩, rfl⟩, by show n - (k + 1) < n - k; omega⟩
 ·have hkn : k = n := by simp at h1; omega
  have e1 : l.take k = l := List.take_of_length_le (by omega)
  rw [e1]
  conv=>arg 5;whnf
  refine wp_share fun a1 c1 hs1 hf1 => ?_
  conv=>arg 5;whnf
  refine wp_share fun a2 c2 hs2 hf2 => ?_
  conv=>arg 5;whnf
  refine wp_back fun β ρ w' hM' => ⟨((a1, c1), (a2, c2)), ⟨hs1, hs2⟩, rfl, hM'.below, ?_⟩
  intro φ hφ
  simp only [List.mem_cons, List.not_mem_nil, or_false] at hφ
  rcases hφ with rfl | rfl
  ·exact giveF _ hM' (List.mem_cons_of_mem _ List.mem_cons_self) hf1
  ·exact giveF _ hM' List.mem_cons_self hf2
end Go.Proofs.YtofpmnkkimgkfaaGreatDoor.queue
