/- Layer 5 (queue): slices.DeleteFunc over an own row of transactions, and Drop. -/
import Derived.Test.YtjejjgoagjkfdaaDoorQueueU
namespace Go.Proofs.YtjejjgoagjkfdaaDoor.queue
open Go.RowKit Sx txn
set_option linter.unusedVariables false
set_option linter.unusedSimpArgs false

theorem mem_granted {w : World} {e : TypeId} {size n : Nat} {v : Value} {xs : List Value} (ho : w.ownsRow 0 e size v n xs) : Mem w v.ownBlock ⟨[], [some ⟨e, size, n, xs⟩], []⟩ [] [v] w where
  grown := ⟨rfl, rfl, rfl, Nat.le_refl _, fun _ _ _ => rfl⟩
  nd := List.nodup_nil
  bl := rfl
  lo g hg := by cases hg
  own b cs ty hb := by simp at hb
  rl := rfl
  row i r hi := by
    cases i with
    | zero =>
      simp at hi
      subst hi
      exact ⟨v, rfl, ho⟩
    | succ i => simp at hi
  rb u hu g hg := by
    simp only [List.mem_singleton] at hu
    subst hu
    refine ⟨by simp, .inr hg.symm, ?_⟩
    rcases ho.2 with ⟨rfl, _⟩ | ⟨g', cap, cur, rfl, _, hw, _⟩
    · simp [Value.ownBlock] at hg
    · simp [Value.ownBlock] at hg
      subst hg
      exact (Array.getElem?_eq_some_iff.1 hw).1
  rows i j u u' g hij hi hj hu := by
    cases i with
    | zero =>
      cases j with
      | zero => exact absurd rfl hij
      | succ j => simp at hj
    | succ i => simp at hi
  fact φ hφ := by cases hφ
theorem at_whole {w : World} {a : Option Addr} {xs : List Value} (n : Nat) (h : At w a xs) : At w (pt a n) xs := by
  by_cases h0 : n = 0
  · rw [show pt a n = none from if_pos h0]
    intro g hg
    cases hg
  · rwa [show pt a n = a from if_neg h0]
def keepV (p : Tx → Bool) (l : List Tx) : List Tx := l.filter fun x => !p x
theorem idx_none (p : Tx → Bool) : ∀ (l : List Tx) (k : Nat), idx p l k = -1 → keepV p l = l
  | [], k, _ => rfl
  | x :: l, k, h => by
    unfold idx at h
    cases hp : p x with
    | true => rw [hp] at h; simp at h
    | false =>
      rw [hp] at h
      simp only [Bool.false_eq_true, if_false] at h
      have := idx_none p l (k + 1) h
      unfold keepV at this ⊢
      rw [List.filter_cons, hp, this]
      rfl
theorem idx_some (p : Tx → Bool) : ∀ (l : List Tx) (k : Nat), idx p l k ≠ -1 → ∃ i : Nat, idx p l k = (k + i : Nat) ∧ i < l.length ∧ keepV p (l.take (i + 1)) = l.take i
  | [], k, h => absurd rfl h
  | x :: l, k, h => by
    unfold idx at h ⊢
    cases hp : p x with
    | true => exact ⟨0, by simp, by simp, by simp [keepV, hp]⟩
    | false =>
      rw [hp] at h
      simp only [Bool.false_eq_true, if_false] at h ⊢
      obtain ⟨i, h1, h2, h3⟩ := idx_some p l (k + 1) h
      refine ⟨i + 1, by rw [h1]; congr 1; omega, by simp; omega, ?_⟩
      unfold keepV at h3 ⊢
      rw [List.take_succ_cons, List.filter_cons, hp, h3]
      rfl
theorem cells_set (l : List Tx) (i : Nat) (x : Tx) (h : i < l.length) : spl (cellsL l) (i * 6) (cellsX x) = cellsL (l.set i x) := by
  unfold spl
  rw [← cellsL_takes, List.set_eq_take_append_cons_drop, if_pos h]
  have e : (cellsL l).drop (i * 6 + (cellsX x).length) = cellsL (l.drop (i + 1)) := by
    have h1 : cellsL l = cellsL (l.take (i + 1)) ++ cellsL (l.drop (i + 1)) := by rw [← cellsL_append, List.take_append_drop]
    have h2 : (cellsL (l.take (i + 1))).length = i * 6 + (cellsX x).length := by rw [cellsL_length, List.length_take]; simp [cellsX]; omega
    rw [h1, ← h2, List.drop_left]
  rw [e]
  simp [cellsL]

set_option maxHeartbeats 4000000 in
set_option maxRecDepth 100000 in
theorem deleteFunc (l : List Tx) (v : Value) (n : Nat) (g : FuncId) (cs : List Value) (p : Tx → Bool) (w : World) (hn : n = l.length) (hown : w.ownsRow 0 28 6 v n (cellsL l)) (hl : l.length ≤ 1000000) (hg : callable Tryd.prog g = true)
    (hp : ∀ (x : Tx) (w' : World), w.grownBy w' v.ownBlock → Calls Tryd.prog g (List.toArray ([x.val] ++ cs)) w' fun e w'' => e = .returned (.bool (p x)) ∧ Below w'.heap.size w' w'') :
    Calls Tryd.prog 69 (List.toArray [v, .func (.func g) #[] cs.toArray]) w fun e w' => ∃ u, e = .returned u ∧ w.grownBy w' v.ownBlock ∧ w'.ownsRow 0 28 6 u (keepV p l).length (cellsL (keepV p l)) ∧ ∀ g, u.ownBlock = some g → v.ownBlock = some g ∨ w.heap.size ≤ g := by
  refine calls_of_row env_ok Tryd.func69 rfl [] (by kernel_rfl) (n := 4) (G := v.ownBlock) rfl [.r 0, .v (.func (.func g) #[] cs.toArray)] ⟨[], [some ⟨28, 6, n, cellsL l⟩], []⟩ [v] (mem_granted hown) (Rels.cons rfl (Rels.cons rfl Rels.nil)) ?_
  (conv => arg 5; whnf)
  refine meet (.int .i64 (idx p l 0)) (by kernel_rfl) (fun β ρ w' vs hM hR => ?_) ?_
  · obtain ⟨y1, y2, rfl, h1, h2⟩ := Rels.two hR
    obtain rfl := h2
    obtain ⟨a, c, rfl, hsl, hat⟩ := hM.at_own (i := 0) rfl h1
    exact indexFunc l a n c g cs p w' hsl hn (at_whole n hat) hg fun x w2 _ hb => hp x w2 (grown_below hM.grown hb)
  (conv => arg 5; whnf)
  refine wp_br (fun h => ?_) (fun h => ?_)
  · have hk := idx_none p l 0 (by simpa using h)
    rw [hk, ← hn]
    (conv => arg 5; whnf)
    refine wp_end (fun β ρ w' u hM hu => ?_)
    obtain ⟨u', hu', ho⟩ := hM.row 0 _ rfl
    rw [hu] at hu'
    cases hu'
    exact ⟨u, rfl, hM.grown, ho, fun g hg => (hM.rb u (List.mem_of_getElem? hu) g hg).2.1.elim .inr fun e => .inl e.symm⟩
  · obtain ⟨i0, hi0, hi1, hi2⟩ := idx_some p l 0 (by simpa using h)
    rw [Nat.zero_add] at hi0
    rw [hi0]
    clear hi0 h
    (conv => arg 5; whnf)
    refine wp_must ⟨by first | omega | (dsimp only; omega), by first | omega | (dsimp only; omega)⟩ ?_
    (conv => arg 5; whnf)
    refine loop_rule env_ok [] (by kernel_rfl) (fun q : Nat × Nat × List Tx => q.1 < q.2.1 ∧ q.2.1 ≤ n ∧ q.2.2.length = n ∧ q.2.2.take q.1 = keepV p (l.take q.2.1) ∧ q.2.2.drop q.2.1 = l.drop q.2.1 ∧ q.1 < n) (fun q => (⟨[], [some ⟨28, 6, n, cellsL q.2.2⟩], []⟩, sl 42 [(0, .r 0), (1, .v (.func (.func g) #[] cs.toArray)), (4, .v (.slice none 0 0)), (5, .v (.int .i64 q.1)), (6, .v (.int .i64 q.2.1))])) (fun q => n - q.2.1) (i0, i0 + 1, l) ⟨by first | omega | (dsimp only; omega), by first | omega | (dsimp only; omega), hn.symm, hi2.symm, rfl, by first | omega | (dsimp only; omega)⟩ ⟨by repeat' first | exact trivial | refine ⟨.inl rfl, ?_⟩ | refine ⟨.inr rfl, ?_⟩, ⟨by repeat' first | exact trivial | refine ⟨.inl rfl, ?_⟩ | refine ⟨.inr rfl, ?_⟩, by repeat' first | exact trivial | refine ⟨.inl rfl, ?_⟩ | refine ⟨.inr rfl, ?_⟩, fun _ h => h⟩, rfl⟩ ?_
    rintro ⟨i, j, r⟩ ⟨hij, hjn, hrl, hrt, hrd, hin⟩
    simp only [] at hij hjn hrl hrt hrd hin
    (conv => arg 5; whnf)
    refine wp_br (fun h1 => ?_) (fun h1 => ?_)
    · have hlt : j < n := by dsimp only at h1; simp at h1; omega
      have hx : l[j]? = some l[j] := List.getElem?_eq_getElem (by omega)
      generalize l[j] = x at hx
      have hrx : r[j]? = some x := by
        have h3 := congrArg (fun L => L[0]?) hrd
        simp only [List.getElem?_drop, Nat.add_zero] at h3
        rw [h3, hx]
      have hkt : keepV p (l.take (j + 1)) = keepV p (l.take j) ++ (if (!p x) = true then [x] else []) := by unfold keepV; exact filt_take _ l j x hx
      have hdd : r.drop (j + 1) = l.drop (j + 1) := by
        have h3 := congrArg (fun L => L.drop 1) hrd
        simpa [List.drop_drop] using h3
      (conv => arg 5; whnf)
      refine wp_must ⟨by first | omega | (dsimp only; omega), by first | omega | (dsimp only; omega)⟩ ?_
      (conv => arg 5; whnf)
      refine ⟨cellsX x, rfl, fun jj u hu => cellsL_at hrx jj u hu, ?_⟩
      (conv => arg 5; whnf)
      refine meet (.bool (p x)) hg (fun β ρ w' vs hM hR => ?_) ?_
      · obtain rfl := Rels.vals_eq (l := [x.val] ++ cs) hR
        exact hp x w' hM.grown
      (conv => arg 5; whnf)
      refine wp_br (fun h2 => ?_) (fun h2 => ?_)
      · rw [if_pos h2] at hkt
        have hs1 : (r.set i x).take (i + 1) = keepV p (l.take (j + 1)) := by
          rw [hkt, ← hrt, List.take_set, List.take_add_one]
          have hri : r[i]? = some r[i] := List.getElem?_eq_getElem (by omega)
          rw [hri]
          simp only [Option.toList_some]
          rw [List.set_append_right _ _ (by rw [List.length_take]; omega), List.length_take, show i - min i r.length = 0 from by omega]
          rfl
        have hs2 : (r.set i x).drop (j + 1) = l.drop (j + 1) := by rw [List.drop_set_of_lt (by omega), hdd]
        have hcs := cells_set r i x (by omega)
        (conv => arg 5; whnf)
        refine wp_must ⟨by first | omega | (dsimp only; omega), by first | omega | (dsimp only; omega)⟩ ?_
        (conv => arg 5; whnf)
        refine wp_must (by rw [cellsL_length, hrl]; show (i : Int).toNat * 6 + 6 ≤ n * 6; omega) ?_
        (conv => arg 5; whnf)
        refine wp_must ⟨by first | omega | (dsimp only; omega), by first | omega | (dsimp only; omega)⟩ ?_
        (conv => arg 5; whnf)
        refine wp_must ⟨by first | omega | (dsimp only; omega), by first | omega | (dsimp only; omega)⟩ ?_
        (conv => arg 5; whnf)
        refine wp_end ⟨(i + 1, j + 1, r.set i x), ⟨by first | omega | (dsimp only; omega), hlt, by simp [hrl], hs1, hs2, by first | omega | (dsimp only; omega)⟩, ⟨by repeat' first | exact trivial | refine ⟨.inl rfl, ?_⟩ | refine ⟨.inr rfl, ?_⟩, ⟨trivial, by show LeO (α := Row) _ [some ⟨28, 6, n, cellsL (r.set i x)⟩]; rw [← hcs]; repeat' first | exact trivial | refine ⟨.inl rfl, ?_⟩ | refine ⟨.inr rfl, ?_⟩, fun _ h => h⟩, rfl⟩, by show n - (j + 1) < n - j; omega⟩
      · rw [if_neg (by rw [h2]; simp), List.append_nil] at hkt
        (conv => arg 5; whnf)
        refine wp_must ⟨by first | omega | (dsimp only; omega), by first | omega | (dsimp only; omega)⟩ ?_
        (conv => arg 5; whnf)
        refine wp_end ⟨(i, j + 1, r), ⟨by first | omega | (dsimp only; omega), hlt, hrl, by rw [hkt]; exact hrt, hdd, hin⟩, ⟨by repeat' first | exact trivial | refine ⟨.inl rfl, ?_⟩ | refine ⟨.inr rfl, ?_⟩, ⟨trivial, by show LeO (α := Row) _ [some ⟨28, 6, n, cellsL (r)⟩]; repeat' first | exact trivial | refine ⟨.inl rfl, ?_⟩ | refine ⟨.inr rfl, ?_⟩, fun _ h => h⟩, rfl⟩, by show n - (j + 1) < n - j; omega⟩
    · have hje : j = n := by dsimp only at h1; simp at h1; omega
      subst hje
      rw [show l.take j = l from List.take_of_length_le (by omega)] at hrt
      have hlen : (keepV p l).length = i := by rw [← hrt, List.length_take]; omega
      (conv => arg 5; whnf)
      refine wp_must ⟨by first | omega | (dsimp only; omega), by first | omega | (dsimp only; omega)⟩ ?_
      (conv => arg 5; whnf)
      intro ys hys
      (conv => arg 5; whnf)
      refine wp_must ⟨by first | omega | (dsimp only; omega), by first | omega | (dsimp only; omega)⟩ ?_
      (conv => arg 5; whnf)
      refine wp_end (fun β ρ w' u hM hu => ?_)
      obtain ⟨u', hu', ho⟩ := hM.row 0 _ rfl
      rw [hu] at hu'
      cases hu'
      refine ⟨u, rfl, hM.grown, ?_, fun g hg => (hM.rb u (List.mem_of_getElem? hu) g hg).2.1.elim .inr fun e => .inl e.symm⟩
      have hfin : ((cellsL r).take ((i : Int).toNat * 6) ++ ys).take ((i : Int).toNat * 6) = cellsL (keepV p l) := by
        rw [Int.toNat_natCast, List.take_append_of_le_length (by rw [List.length_take, cellsL_length]; omega), List.take_take, Nat.min_self, ← cellsL_takes, hrt]
      rw [hlen, ← hfin]
      exact ho

set_option maxHeartbeats 4000000 in
set_option maxRecDepth 100000 in
theorem drop1 (x : Tx) (q : Addr) (v : Int) (w : World) (hq : At w (some q) [.int .i64 v]) : Calls Tryd.prog 70 (List.toArray [x.val, .pointer (some q)]) w fun e w' => e = .returned (.bool (x.n == v)) ∧ Below w.heap.size w w' := by
  refine calls_of_exec env_ok Tryd.func70 rfl [] (by kernel_rfl) [rowF (some q) [.int .i64 v]] (at1 hq) ?_
  (conv => arg 5; whnf)
  refine readC (.int .i64 v) rfl (List.mem_cons_self) (j := 0) rfl (by unfold Addr.add; simp) ?_
  (conv => arg 5; whnf)
  exact wp_back fun β ρ w' hM => ⟨rfl, hM.below⟩
theorem At.grown {w w' : World} {g : Nat} {xs : List Value} {row : Option Nat} (h : At w (some ⟨g, 0, none⟩) xs) (k : w.grownBy w' row) (hne : row ≠ some g) : At w' (some ⟨g, 0, none⟩) xs := by
  intro g' hg'
  cases hg'
  obtain ⟨o, ho, hp⟩ := h g rfl
  exact ⟨o, (k.block g (Array.getElem?_eq_some_iff.1 ho).1 (fun e => hne e.symm)).trans ho, hp⟩
set_option maxHeartbeats 4000000 in
set_option maxRecDepth 100000 in
theorem drop (s b : Int) (l : List Tx) (a : Option Addr) (n c : Nat) (v : Int) (w : World) (hs : Sl a n c) (hn : n = l.length) (hrow : At w (pt a n) (cellsL l)) (hl : l.length ≤ 1000000) :
    Calls Tryd.prog 35 (List.toArray [acc s b a n c, .int .i64 v]) w fun e w' => ∃ i : One, Sl i.1 (dropV v l).length i.2 ∧ Gives w w' e (acc s b i.1 (dropV v l).length i.2) [rowF (pt i.1 (dropV v l).length) (cellsL (dropV v l))] := by
  have hn63 := hs.le
  refine calls_of_exec env_ok Tryd.func35 rfl [] (by kernel_rfl) [rowF (pt a n) (cellsL l)] (at1 hrow) ?_
  (conv => arg 5; whnf)
  refine meetM n (cellsL l) rfl (by kernel_rfl) (fun β ρ w' hM' => clone l a n c w' hs hn (hM'.at_ (List.mem_cons_self)) hl) ?_
  (conv => arg 5; whnf)
  refine ⟨by kernel_rfl, fun β ρ w' vs u hM hR hu ho => ?_⟩
  obtain ⟨y1, y2, rfl, h1, h2⟩ := Rels.two hR
  have h1 : ρ[0]? = some y1 := h1
  rw [hu] at h1
  cases h1
  obtain ⟨g, hg, rfl⟩ := Rel.fn1 h2
  have hbox := hM.box (b := 1) (l := [.int .i64 v]) rfl hg
  have hne : u.ownBlock ≠ some g := fun e => (hM.rb u (List.mem_of_getElem? hu) g e).1 (List.mem_of_getElem? hg)
  refine (deleteFunc l u n _ [.pointer (some ⟨g, 0, none⟩)] (fun x => x.n == v) w' hn ho hl (by kernel_rfl) (fun x w2 hgr => drop1 x _ v w2 (At.grown hbox hgr hne))).mono ?_
  rintro e w2 ⟨u2, rfl, hgr, ho2, hw2⟩
  refine ⟨true, u2, [], (dropV v l).length, cellsL (dropV v l), rfl, hgr, ho2, fun _ => .inr ⟨rfl, hw2⟩, (fun φ hφ => by cases hφ), ?_⟩
  (conv => arg 5; whnf)
  refine wp_share fun a1 c1 hs1 hf1 => ?_
  (conv => arg 5; whnf)
  refine wp_back fun β ρ w' hM' => ⟨(a1, c1), hs1, rfl, hM'.below, ?_⟩
  intro φ hφ
  simp only [List.mem_cons, List.not_mem_nil, or_false] at hφ
  subst hφ
  exact giveF _ hM' List.mem_cons_self hf1

end Go.Proofs.YtjejjgoagjkfdaaDoor.queue
