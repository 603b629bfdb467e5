/- Layer 14 (feed), by contract: Read, Tell. -/
import Derived.Test.YtlfiaebnknhmbaaFeed
namespace Go.Proofs.Ytlfiaebnknhmbaa.feed
open Go.RowKit Sx
set_option linter.unusedVariables false
set_option linter.unusedSimpArgs false
def hdV (l : List Ev) (lost : Int) : Ev := match l with | x :: _ => x | [] => if 0 < lost then lag lost else ev0
def errV (l : List Ev) (lost : Int) : Int := match l with | _ :: _ => 0 | [] => if 0 < lost then 0 else 7
def lostV (l : List Ev) (lost : Int) : Int := match l with | _ :: _ => lost | [] => if 0 < lost then 0 else lost
/-- What is left of a row, somewhere. -/
def Later (a : Option Addr) (n : Nat) (l : List Ev) (a' : Option Addr) (c' : Nat) (l' : List Ev) : Prop := Sl a' l'.length c' ∧ ∀ w : World, At w (pt a n) (cellsE l) → At w (pt a' l'.length) (cellsE l')
theorem later_self {a : Option Addr} {n c : Nat} {l : List Ev} (hs : Sl a n c) (hn : n = l.length) : Later a n l a c l := by subst hn; exact ⟨hs, fun w h => h⟩
theorem take_any (r lost : Int) (a : Option Addr) (n c : Nat) (l : List Ev) (hs : Sl a n c) (hn : n = l.length) : ∃ a' c', Later a n l a' c' l.tail ∧ ∀ w, At w (pt a n) (cellsE l) → Calls Try.prog 24 (List.toArray [fd r a n c lost]) w fun e w' =>  e = .returned (.tuple #[fd r a' (n - 1) c' (lostV l lost), (hdV l lost).val, .int .i64 (errV l lost)]) ∧ Below w.heap.size w w' := by
  cases l with
  | cons x l =>
    refine ⟨shift a c 1, c - 1, ⟨?_, fun w h => ?_⟩, fun w h => ?_⟩
    · have := sl_end hs 1 (by simp at hn; omega)
      rwa [show n - 1 = l.length by simp at hn; omega] at this
    · have := at_end h 1 (by simp at hn; omega) hs.1
      rwa [show n - 1 = l.length by simp at hn; omega] at this
    · exact take_item r lost a n c (x :: l) w hs hn h (by simp at hn; omega)
  | nil =>
    obtain rfl : n = 0 := hn
    refine ⟨a, c, ⟨hs, fun w h => h⟩, fun w h => ?_⟩
    by_cases hl : 0 < lost
    · have := take_lost r lost a c w hl
      simpa [lostV, hdV, errV, hl] using this
    · have := take_none r lost a c w hl
      simpa [lostV, hdV, errV, hl] using this
theorem rread_any (r lost : Int) (a : Option Addr) (n c : Nat) (l : List Ev) (hs : Sl a n c) (hn : n = l.length) : ∃ a' c', Later a n l a' c' l.tail ∧ ∀ w, At w (pt a n) (cellsE l) → Calls Try.prog 14 (List.toArray [fd r a n c lost]) w fun e w' =>  e = .returned (.tuple #[fd r a' (n - 1) c' (lostV l lost), (hdV l lost).val, .int .i64 (errV l lost)]) ∧ Below w.heap.size w w' := by
  cases l with
  | cons x l =>
    refine ⟨shift a c 1, c - 1, ⟨?_, fun w h => ?_⟩, fun w h => ?_⟩
    · have := sl_end hs 1 (by simp at hn; omega)
      rwa [show n - 1 = l.length by simp at hn; omega] at this
    · have := at_end h 1 (by simp at hn; omega) hs.1
      rwa [show n - 1 = l.length by simp at hn; omega] at this
    · exact rread_item r lost a n c (x :: l) w hs hn h (by simp at hn; omega)
  | nil =>
    obtain rfl : n = 0 := hn
    refine ⟨a, c, ⟨hs, fun w h => h⟩, fun w h => ?_⟩
    by_cases hl : 0 < lost
    · have := rread_lost r lost a c w hl
      simpa [lostV, hdV, errV, hl] using this
    · have := rread_none r lost a c w hl
      simpa [lostV, hdV, errV, hl] using this
set_option maxHeartbeats 4000000 in
set_option maxRecDepth 100000 in
theorem read_ (r lost : Int) (a : Option Addr) (n c : Nat) (l : List Ev) (w : World) (hs : Sl a n c) (hn : n = l.length) (hrow : At w (pt a n) (cellsE l)) (hl : l.length ≤ 1000000) : Calls Try.prog 13 (List.toArray [fd r a n c lost]) w fun e w' => ∃ i : One, Sl i.1 (n - 1) i.2 ∧ Gives w w' e (.tuple #[fd r i.1 (n - 1) i.2 (lostV l lost), (hdV l lost).val, .int .i64 (errV l lost)]) [rowF (pt i.1 (n - 1)) (cellsE l.tail)] := by
  obtain ⟨a', c', ⟨hs', hat⟩, hT⟩ := take_any r lost a n c l hs hn
  have htl : l.tail.length = n - 1 := by rw [List.length_tail]; omega
  rw [htl] at hs' hat
  have htl2 : l.tail.length ≤ 1000000 := by omega
  generalize lostV l lost = lo at *
  generalize hdV l lost = x at *
  generalize errV l lost = er at *
  generalize l.tail = l' at *
  refine calls_of_exec (env_ok.keeps.how []) Try.func13 rfl [(3, (line [0, 1, 2, 3, 4, 5], [1, 2]))] (schedQ_ok _ _ (by kernel_rfl)) [rowF (pt a n) (cellsE l)] (at1 hrow) ?_
  (conv => arg 5; whnf)
  refine meetc (f := 24) (v := .tuple #[fd r a' (n - 1) c' lo, x.val, .int .i64 er]) rfl (by kernel_rfl) (fun β ρ w' hM' => hT w' (hM'.at_ (.head _))) ?_
  (conv => arg 5; whnf)
  refine meet1F (f := 25) (n := n - 1) (v := fun a1 c1 => .slice a1 (n - 1) c1) (xs := cellsE l') rfl (by kernel_rfl) (fun β ρ w' hM' => copiedG a' (n - 1) c' l' w' hs' htl.symm htl2 (hat w' (hM'.at_ (.head _)))) (fun a1 c1 hs1 hf1 => ?_)
  (conv => arg 5; whnf)
  exact wp_back fun β ρ w' hM' => ⟨(a1, c1), hs1, rfl, hM'.below, give_of hM' (.head _) hf1⟩
def tell1 (r : Int) (q : List Ev × Int) (x : Ev) : List Ev × Int := if q.2 = 0 ∧ (q.1.length : Int) < r then (q.1 ++ [x], q.2) else (q.1, min q.2 1099511627775 + 1)
def tellV (r : Int) (q : List Ev × Int) (l : List Ev) : List Ev × Int := l.foldl (tell1 r) q
theorem min_run (lo : Int) (w : World) : (do pure (Next.value (← Builtin.min_ #[3, 3] 3 (List.toArray [.int .i64 lo, .int .i64 1099511627775]))) : Sem Next).run Try.prog w = .ok (.value (.int .i64 (min lo 1099511627775))) w := by
  have h : (if (1099511627775 : Int) < lo then (1099511627775 : Int) else lo) = min lo 1099511627775 := by split <;> omega
  simp [Builtin.min_, Builtin.min2, h]
theorem tell1_fits {r : Int} {q : List Ev × Int} {x : Ev} (h : Fits q.2) : Fits (tell1 r q x).2 := by
  unfold tell1 Fits at *
  split
  · exact h
  · show _ ≤ min q.2 1099511627775 + 1 ∧ min q.2 1099511627775 + 1 < _
    omega
theorem tell1_len {r : Int} {q : List Ev × Int} {x : Ev} : (tell1 r q x).1.length ≤ q.1.length + 1 := by
  unfold tell1
  split
  · simp
  · show q.1.length ≤ _; omega
theorem tellV_len {r : Int} : ∀ {l : List Ev} {q : List Ev × Int}, (tellV r q l).1.length ≤ q.1.length + l.length
  | [], q => by simp [tellV]
  | x :: l, q => by
    have h1 := tellV_len (r := r) (l := l) (q := tell1 r q x)
    have h2 := tell1_len (r := r) (q := q) (x := x)
    have h3 : tellV r q (x :: l) = tellV r (tell1 r q x) l := rfl
    rw [h3, List.length_cons]
    omega
theorem tellV_at {r : Int} {l : List Ev} {k : Nat} {q : List Ev × Int} (h : k < l.length) : tellV r q (l.drop k) = tellV r (tell1 r q (nx l k)) (l.drop (k + 1)) := by
  have h1 := nx_get h
  obtain ⟨hk, hx⟩ := List.getElem?_eq_some_iff.1 h1
  rw [List.drop_eq_getElem_cons hk, hx]
  rfl
set_option maxHeartbeats 4000000 in
set_option maxRecDepth 100000 in
theorem tell (r lost : Int) (a : Option Addr) (n c : Nat) (l : List Ev) (b : Option Addr) (m d : Nat) (es : List Ev) (w : World) (hs : Sl a n c) (hn : n = l.length) (hrow : At w (pt a n) (cellsE l)) (hs2 : Sl b m d) (hm : m = es.length) (hrow2 : At w (pt b m) (cellsE es)) (hl : l.length ≤ 100000) (hes : es.length ≤ 100000) (hlost : Fits lost) : Calls Try.prog 19 (List.toArray [fd r a n c lost, .slice b m d]) w fun e w' => ∃ i : One, Sl i.1 (tellV r (l, lost) es).1.length i.2 ∧ Gives w w' e (fd r i.1 (tellV r (l, lost) es).1.length i.2 (tellV r (l, lost) es).2) [rowF (pt i.1 (tellV r (l, lost) es).1.length) (cellsE (tellV r (l, lost) es).1)] := by
  have hm63 := hs2.le
  generalize hTV : tellV r (l, lost) es = tv at *
  refine calls_of_exec env_ok.keeps Try.func19 rfl [] (schedQ_ok _ _ (by kernel_rfl)) [rowF (pt a n) (cellsE l), rowF (pt b m) (cellsE es)] (at2 hrow hrow2) ?_
  (conv => arg 5; whnf)
  refine meetM n (cellsE l) rfl (by kernel_rfl) (fun β ρ w' hM' => copied a n c l w' hs hn (by omega) (hM'.at_ (.head _))) ?_
  subst hn
  (conv => arg 5; whnf)
  refine loop_rule env_ok.keeps [] (by kernel_rfl) (fun q : Nat × List Ev × Int => q.1 ≤ m ∧ q.2.1.length ≤ l.length + q.1 ∧ Fits q.2.2 ∧ tellV r q.2 (es.drop q.1) = tv) (fun q => (⟨[some ([.v (.int .i64 r), .r 0, .v (.int .i64 q.2.2)], 27), some ([.v (.int .i64 0), .v (.slice none 0 0), .v (.int .i64 0)], 27)], [some ⟨36, 8, q.2.1.length, cellsE q.2.1⟩], [rowF (pt a l.length) (cellsE l), rowF (pt b m) (cellsE es)]⟩, sl 41 [(2, .p 0 0), (4, .p 1 0), (11, .v (.slice b m d)), (12, .v (.int .i64 (m : Nat))), (13, .v (.int .i64 (q.1 : Nat)))])) (fun q => m - q.1) (0, l, lost) ⟨Nat.zero_le _, Nat.le_refl _, hlost, hTV⟩ ⟨by repeat' first | exact trivial | refine ⟨.inl rfl, ?_⟩ | refine ⟨.inr rfl, ?_⟩, ⟨by repeat' first | exact trivial | refine ⟨.inl rfl, ?_⟩ | refine ⟨.inr rfl, ?_⟩, by repeat' first | exact trivial | refine ⟨.inl rfl, ?_⟩ | refine ⟨.inr rfl, ?_⟩, fun _ h => h⟩, rfl⟩ ?_
  rintro ⟨k, it, lo⟩ ⟨hk, hit, hlo, htv⟩
  simp only [] at hk hit hlo htv
  have hlo2 := hlo
  unfold Fits at hlo2
  (conv => arg 5; whnf)
  refine wp_br (fun h1 => ?_) (fun h1 => ?_)
  · have hlt : k < m := by simp at h1; omega
    rw [tellV_at (by omega)] at htv
    have hx := nx_get (l := es) (k := k) (by omega)
    have hfx := tell1_fits (r := r) (q := (it, lo)) (x := nx es k) hlo
    generalize nx es k = x at hx htv hfx
    (conv => arg 5; whnf)
    refine wp_must ⟨by omega, by omega, hs2.some hlt⟩ ?_
    (conv => arg 5; whnf)
    refine readE (l := es) (k := k) (x := x) rfl (.tail _ (.head _)) hlt (hs2.some hlt) hx rfl ?_
    (conv => arg 5; whnf)
    refine wp_g1 (fun h2 => ?_) (fun h2 => ?_)
    · (conv => arg 5; whnf)
      refine wp_br (fun h3 => ?_) (fun h3 => ?_)
      · have e1 : tell1 r (it, lo) x = (it ++ [x], lo) := by unfold tell1; rw [if_pos (by simp at h2 h3; exact ⟨h2, by show (it.length : Int) < r; omega⟩)]
        rw [e1] at htv hfx
        have c1 : cellsE (it ++ [x]) = cellsE it ++ x.cells := by rw [cellsE_append]; simp [cellsE]
        have l1 : (it ++ [x]).length = it.length + 1 := by simp
        (conv => arg 5; whnf)
        refine wp_must ⟨by show it.length + 1 ≤ maxLen; unfold maxLen; omega, by show (it.length + 1) * 72 ≤ _; omega⟩ ?_
        (conv => arg 5; whnf)
        refine wp_must ⟨by omega, by omega⟩ ?_
        (conv => arg 5; whnf)
        refine wp_end ⟨(k + 1, it ++ [x], lo), ⟨hlt, by show (it ++ [x]).length ≤ l.length + (k + 1); rw [l1]; omega, hfx, htv⟩, ⟨by repeat' first | exact trivial | refine ⟨.inl rfl, ?_⟩ | refine ⟨.inr rfl, ?_⟩, ⟨by repeat' first | exact trivial | refine ⟨.inl rfl, ?_⟩ | refine ⟨.inr rfl, ?_⟩, by show LeO (α := Row) _ [some ⟨36, 8, (it ++ [x]).length, cellsE (it ++ [x])⟩]; simp only [c1, l1, Ev.cells]; repeat' first | exact trivial | refine ⟨.inl rfl, ?_⟩ | refine ⟨.inr rfl, ?_⟩, fun _ h => h⟩, rfl⟩, by show m - (k + 1) < m - k; omega⟩
      · skip
        have e1 : tell1 r (it, lo) x = (it, min lo 1099511627775 + 1) := by unfold tell1; rw [if_neg (by simp at h2 h3 ⊢; omega)]
        rw [e1] at htv hfx
        (conv => arg 5; whnf)
        refine wp_prim (.int .i64 (min lo 1099511627775)) (fun w => min_run lo w) ?_
        (conv => arg 5; whnf)
        refine wp_must ⟨by omega, by omega⟩ ?_
        (conv => arg 5; whnf)
        refine wp_must ⟨by omega, by omega⟩ ?_
        (conv => arg 5; whnf)
        refine wp_end ⟨(k + 1, it, min lo 1099511627775 + 1), ⟨hlt, by show it.length ≤ l.length + (k + 1); omega, hfx, htv⟩, ⟨by repeat' first | exact trivial | refine ⟨.inl rfl, ?_⟩ | refine ⟨.inr rfl, ?_⟩, ⟨by repeat' first | exact trivial | refine ⟨.inl rfl, ?_⟩ | refine ⟨.inr rfl, ?_⟩, by repeat' first | exact trivial | refine ⟨.inl rfl, ?_⟩ | refine ⟨.inr rfl, ?_⟩, fun _ h => h⟩, rfl⟩, by show m - (k + 1) < m - k; omega⟩
    · skip
      have e1 : tell1 r (it, lo) x = (it, min lo 1099511627775 + 1) := by unfold tell1; rw [if_neg (by simp at h2 ⊢; omega)]
      rw [e1] at htv hfx
      (conv => arg 5; whnf)
      refine wp_prim (.int .i64 (min lo 1099511627775)) (fun w => min_run lo w) ?_
      (conv => arg 5; whnf)
      refine wp_must ⟨by omega, by omega⟩ ?_
      (conv => arg 5; whnf)
      refine wp_must ⟨by omega, by omega⟩ ?_
      (conv => arg 5; whnf)
      refine wp_end ⟨(k + 1, it, min lo 1099511627775 + 1), ⟨hlt, by show it.length ≤ l.length + (k + 1); omega, hfx, htv⟩, ⟨by repeat' first | exact trivial | refine ⟨.inl rfl, ?_⟩ | refine ⟨.inr rfl, ?_⟩, ⟨by repeat' first | exact trivial | refine ⟨.inl rfl, ?_⟩ | refine ⟨.inr rfl, ?_⟩, by repeat' first | exact trivial | refine ⟨.inl rfl, ?_⟩ | refine ⟨.inr rfl, ?_⟩, fun _ h => h⟩, rfl⟩, by show m - (k + 1) < m - k; omega⟩
  · have hkm : k = m := by simp at h1; omega
    subst hkm
    rw [List.drop_eq_nil_of_le (by omega)] at htv
    have htv : (it, lo) = tv := htv
    rw [← htv]
    (conv => arg 5; whnf)
    refine wp_share fun a1 c1 hs1 hf1 => ?_
    exact wp_back fun β ρ w' hM' => ⟨(a1, c1), hs1, rfl, hM'.below, give1 _ hM' (.head _) hf1⟩
end Go.Proofs.Ytlfiaebnknhmbaa.feed
