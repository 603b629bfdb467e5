/- Layer 5 (queue): the document's Place and Put. -/
import Derived.Test.YtjejjgoagjkfdaaDoorQueueT
namespace Go.Proofs.YtjejjgoagjkfdaaDoor.queue
open Go.RowKit Sx txn
set_option linter.unusedVariables false
set_option linter.unusedSimpArgs false

set_option maxHeartbeats 4000000 in
set_option maxRecDepth 100000 in
theorem rplace (s b per : Int) (l : List Tx) (a : Option Addr) (n c : Nat) (t : Tx) (bump : Int) (w : World) (hM : Most w) (hs : Sl a n c) (hn : n = l.length) (hrow : At w (pt a n) (cellsL l)) (hd : ∀ x ∈ l, x.d.size ≤ maxLen) (hdt : t.d.size ≤ maxLen) :
    Calls Tryd.prog 29 (List.toArray [acc s b a n c, t.val, .int .i64 per, .int .i64 bump]) w fun e w' => e = .returned (.tuple #[.int .i64 (placeV s b per l t bump).1, .int .i64 (placeV s b per l t bump).2]) ∧ Below w.heap.size w w' := by
  have hpv : placeV s b per l t bump = bif !(checkV s b per l && t.ok && (t.s == s) && inB bump 0 100) then (0, 1) else bif decide (t.n < b) then (0, 3) else
    bif (findV l t.n).2 then replV (findV l t.n).1 t bump else bif (n : Int) == per then (0, 5) else (slotV t, 0) := by rw [hn]; rfl
  have hfd : (findV l t.n).1.d.size ≤ maxLen := by
    rcases findV_mem l t.n with h | h
    · exact hd _ h
    · rw [h]; simp [tx0, maxLen]
  have hfind := fun w' hr => rfind s b l a n c t.n w' hs hn hr
  have hchk := fun w' hm hr => rcheck_ s b per l a n c w' hm hs hn hr
  have hper : checkV s b per l = true → (n : Int) ≤ per := by
    intro h
    unfold checkV at h
    simp only [Bool.and_eq_true, decide_eq_true_eq] at h
    omega
  have hrep : ∀ o : Tx, replV o t bump = bif !rz.raiseB o.t bump || decide (t.t < rz.raiseV o.t bump) then (0, 4) else (slotV t - slotV o, 0) := fun _ => rfl
  have hrs := fun (o : Tx) w => rz.rraise_any o.t bump w
  generalize checkV s b per l = cv at *
  generalize findV l t.n = fv at hpv hfd hfind
  obtain ⟨old, is⟩ := fv
  simp only [] at hpv hfd hfind
  rw [hrep] at hpv
  have hrs := hrs old
  clear hrep
  generalize rz.raiseB old.t bump = rb at *
  generalize rz.raiseV old.t bump = rv at *
  generalize placeV s b per l t bump = pv at *
  have hb1 := slotV_bd t
  have hb2 := slotV_bd old
  have bad : (cv && t.ok && (t.s == s) && inB bump 0 100) = false → pv = (0, 1) := fun h => by rw [hpv, h]; rfl
  have good : (cv && t.ok && (t.s == s) && inB bump 0 100) = true → pv = bif decide (t.n < b) then (0, 3) else bif is then (bif !rb || decide (t.t < rv) then (0, 4) else (slotV t - slotV old, 0)) else bif (n : Int) == per then (0, 5) else (slotV t, 0) := fun h => by rw [hpv, h]; rfl
  clear hpv
  have hn63 := hs.le
  refine calls_of_exec env_ok Tryd.func29 rfl [(10, (line [0, 2, 1, 3, 4, 5, 6], []))] (by kernel_rfl) [rowF (pt a n) (cellsL l)] (at1 hrow) ?_
  (conv => arg 5; whnf)
  refine meetc rfl (by kernel_rfl) (fun β ρ w' hM' => hchk w' (hM.later hM'.below) (hM'.at_ List.mem_cons_self)) ?_
  (conv => arg 5; whnf)
  refine wp_br (fun g1 => ?_) (fun g1 => ?_)
  rotate_left
  · have hb := bad (by simp at g1; simp [g1])
    (conv => arg 5; whnf)
    exact wp_back fun β ρ w' hM' => ⟨ret_two' (by rw [hb]), hM'.below⟩
  (conv => arg 5; whnf)
  refine meetc rfl (by kernel_rfl) (fun β ρ w' hM' => rcheck t w') ?_
  (conv => arg 5; whnf)
  refine wp_br (fun g2 => ?_) (fun g2 => ?_)
  rotate_left
  · have hb := bad (by simp at g2; simp [g2])
    (conv => arg 5; whnf)
    exact wp_back fun β ρ w' hM' => ⟨ret_two' (by rw [hb]), hM'.below⟩
  (conv => arg 5; whnf)
  refine wp_br (fun g3 => ?_) (fun g3 => ?_)
  rotate_left
  · have hb := bad (by simp at g3; simp [g3])
    (conv => arg 5; whnf)
    exact wp_back fun β ρ w' hM' => ⟨ret_two' (by rw [hb]), hM'.below⟩
  (conv => arg 5; whnf)
  refine wp_br (fun g4 => ?_) (fun g4 => ?_)
  rotate_left
  · have hb := bad (by simp at g4; simp [inB]; omega)
    (conv => arg 5; whnf)
    exact wp_back fun β ρ w' hM' => ⟨ret_two' (by rw [hb]), hM'.below⟩
  (conv => arg 5; whnf)
  refine wp_br (fun g5 => ?_) (fun g5 => ?_)
  · have hb := bad (by simp at g5; simp [inB]; omega)
    (conv => arg 5; whnf)
    exact wp_back fun β ρ w' hM' => ⟨ret_two' (by rw [hb]), hM'.below⟩
  have hg := good (by simp at g1 g2 g3 g4 g5; simp [inB, g1, g2, g3, g4, g5])
  have hper := hper (by simpa using g1)
  clear bad good
  (conv => arg 5; whnf)
  refine wp_br (fun g6 => ?_) (fun g6 => ?_)
  · rw [g6] at hg
    (conv => arg 5; whnf)
    exact wp_back fun β ρ w' hM' => ⟨ret_two' (by rw [hg]; rfl), hM'.below⟩
  · rw [g6] at hg
    (conv => arg 5; whnf)
    refine meetc rfl (by kernel_rfl) (fun β ρ w' hM' => hfind w' (hM'.at_ List.mem_cons_self)) ?_
    (conv => arg 5; whnf)
    refine wp_br (fun g7 => ?_) (fun g7 => ?_)
    · rw [g7] at hg
      (conv => arg 5; whnf)
      refine meetc rfl (by kernel_rfl) (fun β ρ w' hM' => (hrs w').mono fun e w2 ⟨he, hw⟩ => ⟨he, hw ▸ Below.refl _ _⟩) ?_
      (conv => arg 5; whnf)
      refine wp_br (fun g8 => ?_) (fun g8 => ?_)
      · have g8 : rb = true := by simpa using g8
        rw [g8] at hg
        (conv => arg 5; whnf)
        refine wp_br (fun g9 => ?_) (fun g9 => ?_)
        · rw [g9] at hg
          (conv => arg 5; whnf)
          exact wp_back fun β ρ w' hM' => ⟨ret_two' (by rw [hg]; rfl), hM'.below⟩
        · rw [g9] at hg
          (conv => arg 5; whnf)
          refine meetc rfl (by kernel_rfl) (fun β ρ w' hM' => rslots t w' hdt) ?_
          (conv => arg 5; whnf)
          refine meetc rfl (by kernel_rfl) (fun β ρ w' hM' => rslots old w' hfd) ?_
          (conv => arg 5; whnf)
          refine wp_must ⟨by omega, by omega⟩ ?_
          (conv => arg 5; whnf)
          exact wp_back fun β ρ w' hM' => ⟨ret_two' (by rw [hg]; rfl), hM'.below⟩
      · have g8 : rb = false := by simpa using g8
        rw [g8] at hg
        (conv => arg 5; whnf)
        exact wp_back fun β ρ w' hM' => ⟨ret_two' (by rw [hg]; rfl), hM'.below⟩
    · rw [g7] at hg
      (conv => arg 5; whnf)
      refine wp_br (fun g8 => ?_) (fun g8 => ?_)
      · have g8 : ((n : Int) == per) = true := by simp at g8 ⊢; omega
        rw [g8] at hg
        (conv => arg 5; whnf)
        exact wp_back fun β ρ w' hM' => ⟨ret_two' (by rw [hg]; rfl), hM'.below⟩
      · have g8 : ((n : Int) == per) = false := by simp at g8 ⊢; omega
        rw [g8] at hg
        (conv => arg 5; whnf)
        refine meetc rfl (by kernel_rfl) (fun β ρ w' hM' => rslots t w' hdt) ?_
        (conv => arg 5; whnf)
        exact wp_back fun β ρ w' hM' => ⟨ret_two' (by rw [hg]; rfl), hM'.below⟩

/-- What comes of a row, and t, from some place on. -/
def putGo (is : Bool) (t : Tx) : List Tx → Bool → List Tx
  | [], laid => bif laid then [] else [t]
  | x :: l, laid => bif !laid && (x.n == t.n) then t :: putGo is t l true else bif !laid && !is && decide (x.n > t.n) then t :: x :: putGo is t l true else x :: putGo is t l laid
def putV (t : Tx) (l : List Tx) : List Tx := putGo (findV l t.n).2 t l false
theorem putGo_drop (is : Bool) (t : Tx) (l : List Tx) (k : Nat) (x : Tx) (laid : Bool) (h : l[k]? = some x) : putGo is t (l.drop k) laid = bif !laid && (x.n == t.n) then t :: putGo is t (l.drop (k + 1)) true else bif !laid && !is && decide (x.n > t.n) then t :: x :: putGo is t (l.drop (k + 1)) true else x :: putGo is t (l.drop (k + 1)) laid := by
  obtain ⟨h1, h2⟩ := List.getElem?_eq_some_iff.1 h
  rw [List.drop_eq_getElem_cons h1, h2]
  rfl

set_option maxHeartbeats 4000000 in
set_option maxRecDepth 100000 in
theorem rput (s b : Int) (l : List Tx) (a : Option Addr) (n c : Nat) (t : Tx) (w : World) (hs : Sl a n c) (hn : n = l.length) (hrow : At w (pt a n) (cellsL l)) (hl : l.length ≤ 1000000) :
    Calls Tryd.prog 34 (List.toArray [acc s b a n c, t.val]) w fun e w' => ∃ i : One, Sl i.1 (putV t l).length i.2 ∧ Gives w w' e (acc s b i.1 (putV t l).length i.2) [rowF (pt i.1 (putV t l).length) (cellsL (putV t l))] := by
  have hfind := fun w' hr => rfind s b l a n c t.n w' hs hn hr
  have hpv : putV t l = putGo (findV l t.n).2 t l false := rfl
  generalize findV l t.n = fv at hpv hfind
  obtain ⟨old, is⟩ := fv
  simp only [] at hpv hfind
  have hn63 := hs.le
  refine calls_of_exec env_ok Tryd.func34 rfl [] (by kernel_rfl) [rowF (pt a n) (cellsL l)] (at1 hrow) ?_
  (conv => arg 5; whnf)
  refine meetc rfl (by kernel_rfl) (fun β ρ w' hM' => hfind w' (hM'.at_ List.mem_cons_self)) ?_
  (conv => arg 5; whnf)
  refine loop_nil 5 28 6 rfl ?_
  refine loop_rule env_ok [] (by kernel_rfl) (fun i : Nat × Bool × List Tx => i.1 ≤ n ∧ putV t l = i.2.2 ++ putGo is t (l.drop i.1) i.2.1 ∧ i.2.2.length ≤ 2 * i.1) (fun i => (⟨[some ([.v (.int .i64 s), .v (.int .i64 b), .v (.slice a n c)], 24), some ([.v (.int .i64 t.s), .v (.int .i64 t.n), .v (.int .i64 t.t), .v (.int .i64 t.c), .v (.int .i64 t.g), .v (.string t.d)], 28), some ([.v (.int .i64 0), .v (.int .i64 0), .v (.slice none 0 0)], 24), some ([.v (.int .i64 old.s), .v (.int .i64 old.n), .v (.int .i64 old.t), .v (.int .i64 old.c), .v (.int .i64 old.g), .v (.string old.d)], 28)], [some ⟨28, 6, i.2.2.length, cellsL i.2.2⟩], [rowF (pt a n) (cellsL l)]⟩, sl 73 [(2, .p 0 0), (3, .p 1 0), (4, .p 2 0), (5, .r 0), (6, .v (.bool i.2.1)), (7, .p 3 0), (8, .v (.bool is)), (9, .v (.int .i64 i.1))])) (fun i => n - i.1) (0, false, []) ⟨Nat.zero_le _, by rw [hpv]; rfl, Nat.le_refl _⟩ ⟨by repeat' first | exact trivial | refine ⟨.inl rfl, ?_⟩ | refine ⟨.inr rfl, ?_⟩, ⟨by repeat' first | exact trivial | refine ⟨.inl rfl, ?_⟩ | refine ⟨.inr rfl, ?_⟩, by repeat' first | exact trivial | refine ⟨.inl rfl, ?_⟩ | refine ⟨.inr rfl, ?_⟩, fun _ h => h⟩, rfl⟩ ?_
  rintro ⟨k, laid, out⟩ ⟨hk, hr, hlen⟩
  simp only [] at hk hr hlen
  (conv => arg 5; whnf)
  refine wp_br (fun h1 => ?_) (fun h1 => ?_)
  · have hlt : k < n := by simp at h1; omega
    have hx : l[k]? = some l[k] := List.getElem?_eq_getElem (by omega)
    generalize l[k] = x at hx
    rw [putGo_drop is t l k x laid hx] at hr
    have c1 : ∀ (L : List Tx) (y : Tx), cellsL (L ++ [y]) = cellsL L ++ cellsX y := cellsL_snoc
    have l1 : ∀ (L : List Tx) (y : Tx), (L ++ [y]).length = L.length + 1 := fun L y => by simp
    (conv => arg 5; whnf)
    refine wp_must ⟨by omega, by omega, hs.some hlt⟩ ?_
    (conv => arg 5; whnf)
    refine readX (l := l) (k := k) rfl (List.mem_cons_self) hlt (hs.some hlt) hx rfl ?_
    cases laid with
    | false =>
      simp only [Bool.not_false, Bool.true_and] at hr
      (conv => arg 5; whnf)
      refine wp_br (fun h2 => ?_) (fun h2 => ?_)
      · rw [h2] at hr
        simp only [cond_true] at hr
        (conv => arg 5; whnf)
        refine wp_must ⟨by show out.length + 1 ≤ maxLen; unfold maxLen; omega, by show (out.length + 1) * 56 ≤ 140737488355328; omega⟩ ?_
        (conv => arg 5; whnf)
        refine wp_must ⟨by omega, by omega⟩ ?_
        (conv => arg 5; whnf)
        refine wp_end ⟨(k + 1, true, out ++ [t]), ⟨hlt, by rw [hr]; simp, by simp; omega⟩, ⟨by repeat' first | exact trivial | refine ⟨.inl rfl, ?_⟩ | refine ⟨.inr rfl, ?_⟩, ⟨by repeat' first | exact trivial | refine ⟨.inl rfl, ?_⟩ | refine ⟨.inr rfl, ?_⟩, by show LeO (α := Row) _ [some ⟨28, 6, (out ++ [t]).length, cellsL (out ++ [t])⟩]; simp only [c1, l1]; repeat' first | exact trivial | refine ⟨.inl rfl, ?_⟩ | refine ⟨.inr rfl, ?_⟩, fun _ h => h⟩, rfl⟩, by show n - (k + 1) < n - k; omega⟩
      · rw [h2] at hr
        simp only [cond_false] at hr
        (conv => arg 5; whnf)
        refine wp_br (fun h3 => ?_) (fun h3 => ?_)
        · have h3 : is = false := by simpa using h3
          subst h3
          simp only [Bool.not_false, Bool.true_and] at hr
          (conv => arg 5; whnf)
          refine wp_br (fun h4 => ?_) (fun h4 => ?_)
          · rw [h4] at hr
            simp only [cond_true] at hr
            (conv => arg 5; whnf)
            refine wp_must ⟨by show out.length + 1 ≤ maxLen; unfold maxLen; omega, by show (out.length + 1) * 56 ≤ 140737488355328; omega⟩ ?_
            (conv => arg 5; whnf)
            refine wp_must ⟨by show (out.length + 1) + 1 ≤ maxLen; unfold maxLen; omega, by show ((out.length + 1) + 1) * 56 ≤ 140737488355328; omega⟩ ?_
            (conv => arg 5; whnf)
            refine wp_must ⟨by omega, by omega⟩ ?_
            (conv => arg 5; whnf)
            refine wp_end ⟨(k + 1, true, out ++ [t] ++ [x]), ⟨hlt, by rw [hr]; simp, by simp; omega⟩, ⟨by repeat' first | exact trivial | refine ⟨.inl rfl, ?_⟩ | refine ⟨.inr rfl, ?_⟩, ⟨by repeat' first | exact trivial | refine ⟨.inl rfl, ?_⟩ | refine ⟨.inr rfl, ?_⟩, by show LeO (α := Row) _ [some ⟨28, 6, (out ++ [t] ++ [x]).length, cellsL (out ++ [t] ++ [x])⟩]; simp only [c1, l1]; repeat' first | exact trivial | refine ⟨.inl rfl, ?_⟩ | refine ⟨.inr rfl, ?_⟩, fun _ h => h⟩, rfl⟩, by show n - (k + 1) < n - k; omega⟩
          · rw [h4] at hr
            simp only [cond_false] at hr
            (conv => arg 5; whnf)
            refine wp_must ⟨by show out.length + 1 ≤ maxLen; unfold maxLen; omega, by show (out.length + 1) * 56 ≤ 140737488355328; omega⟩ ?_
            (conv => arg 5; whnf)
            refine wp_must ⟨by omega, by omega⟩ ?_
            (conv => arg 5; whnf)
            refine wp_end ⟨(k + 1, false, out ++ [x]), ⟨hlt, by rw [hr]; simp, by simp; omega⟩, ⟨by repeat' first | exact trivial | refine ⟨.inl rfl, ?_⟩ | refine ⟨.inr rfl, ?_⟩, ⟨by repeat' first | exact trivial | refine ⟨.inl rfl, ?_⟩ | refine ⟨.inr rfl, ?_⟩, by show LeO (α := Row) _ [some ⟨28, 6, (out ++ [x]).length, cellsL (out ++ [x])⟩]; simp only [c1, l1]; repeat' first | exact trivial | refine ⟨.inl rfl, ?_⟩ | refine ⟨.inr rfl, ?_⟩, fun _ h => h⟩, rfl⟩, by show n - (k + 1) < n - k; omega⟩
        · have h3 : is = true := by simpa using h3
          subst h3
          simp only [Bool.not_true, Bool.false_and, cond_false] at hr
          (conv => arg 5; whnf)
          refine wp_must ⟨by show out.length + 1 ≤ maxLen; unfold maxLen; omega, by show (out.length + 1) * 56 ≤ 140737488355328; omega⟩ ?_
          (conv => arg 5; whnf)
          refine wp_must ⟨by omega, by omega⟩ ?_
          (conv => arg 5; whnf)
          refine wp_end ⟨(k + 1, false, out ++ [x]), ⟨hlt, by rw [hr]; simp, by simp; omega⟩, ⟨by repeat' first | exact trivial | refine ⟨.inl rfl, ?_⟩ | refine ⟨.inr rfl, ?_⟩, ⟨by repeat' first | exact trivial | refine ⟨.inl rfl, ?_⟩ | refine ⟨.inr rfl, ?_⟩, by show LeO (α := Row) _ [some ⟨28, 6, (out ++ [x]).length, cellsL (out ++ [x])⟩]; simp only [c1, l1]; repeat' first | exact trivial | refine ⟨.inl rfl, ?_⟩ | refine ⟨.inr rfl, ?_⟩, fun _ h => h⟩, rfl⟩, by show n - (k + 1) < n - k; omega⟩
    | true =>
      simp only [Bool.not_true, Bool.false_and, cond_false] at hr
      (conv => arg 5; whnf)
      refine wp_must ⟨by show out.length + 1 ≤ maxLen; unfold maxLen; omega, by show (out.length + 1) * 56 ≤ 140737488355328; omega⟩ ?_
      (conv => arg 5; whnf)
      refine wp_must ⟨by omega, by omega⟩ ?_
      (conv => arg 5; whnf)
      refine wp_end ⟨(k + 1, true, out ++ [x]), ⟨hlt, by rw [hr]; simp, by simp; omega⟩, ⟨by repeat' first | exact trivial | refine ⟨.inl rfl, ?_⟩ | refine ⟨.inr rfl, ?_⟩, ⟨by repeat' first | exact trivial | refine ⟨.inl rfl, ?_⟩ | refine ⟨.inr rfl, ?_⟩, by show LeO (α := Row) _ [some ⟨28, 6, (out ++ [x]).length, cellsL (out ++ [x])⟩]; simp only [c1, l1]; repeat' first | exact trivial | refine ⟨.inl rfl, ?_⟩ | refine ⟨.inr rfl, ?_⟩, fun _ h => h⟩, rfl⟩, by show n - (k + 1) < n - k; omega⟩
  · have hkn : k = n := by simp at h1; omega
    rw [List.drop_eq_nil_of_le (by omega)] at hr
    cases laid with
    | false =>
      have hr : putV t l = out ++ [t] := hr
      rw [hr]
      have c1 : cellsL (out ++ [t]) = cellsL out ++ cellsX t := cellsL_snoc _ _
      have l1 : (out ++ [t]).length = out.length + 1 := by simp
      rw [c1, l1]
      (conv => arg 5; whnf)
      refine wp_must ⟨by show out.length + 1 ≤ maxLen; unfold maxLen; omega, by show (out.length + 1) * 56 ≤ 140737488355328; omega⟩ ?_
      (conv => arg 5; whnf)
      refine wp_share fun a1 c1 hs1 hf1 => ?_
      (conv => arg 5; whnf)
      refine wp_back fun β ρ w' hM' => ⟨(a1, c1), hs1, rfl, hM'.below, ?_⟩
      intro φ hφ
      simp only [List.mem_cons, List.not_mem_nil, or_false] at hφ
      subst hφ
      exact giveF _ hM' List.mem_cons_self hf1
    | true =>
      have hr : putV t l = out := by rw [hr]; simp [putGo]
      rw [hr]
      (conv => arg 5; whnf)
      refine wp_share fun a1 c1 hs1 hf1 => ?_
      (conv => arg 5; whnf)
      refine wp_back fun β ρ w' hM' => ⟨(a1, c1), hs1, rfl, hM'.below, ?_⟩
      intro φ hφ
      simp only [List.mem_cons, List.not_mem_nil, or_false] at hφ
      subst hφ
      exact giveF _ hM' List.mem_cons_self hf1

end Go.Proofs.YtjejjgoagjkfdaaDoor.queue
